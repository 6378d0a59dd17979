import PyProof.Rows.All
import Wide.All
import OpenK.AllK
import Wide.FinOn
import HandS.ForMost
import HandS.Wide
import HandS.IsInst
import HandS.SortInts
import HandS.Flow
import HandS.TupAny
import HandS.Defaults
import HandS.Text
import HandS.EndBits
import HandS.Evl
import PyProof.ReprRoads
import PyProof.StrLawsRepr
import PyProof.FitsInt
import HandS.Walk
import HandS.SetKeys
import HandS.Strs
import HandS.SetFor
import HandS.Zip
import PyProof.EqAt
import PyProof.EqKinds
import HandS.DictEq
import HandS.TupSets
import KE.KDictZip
import KE.GoesMore
import KE.KItemsList
import HandS.ListItems
import HandS.Star
import HandS.Iter
import KE.DataEq
import HandS.Finally
import HandS.Style
import HandS.DeepEq
import HandS.Exc
import HandS.ExcOwn
import HandS.ExcIs
import HandS.Lambda
import HandS.ExcValue
import HandS.ExcInit
import HandS.ExcSuper
import HandS.ClsMeth
import KE.KExcSuper
import HandS.FStr
import HandS.ExcField
import KE.KExcIs
import HandS.DictComp
import HandS.EndTab
import KE.KNestM
import KE.KExcStr
import PySem.Challenge.RW_markedways_k01_errors_apart
set_option Elab.async false
set_option linter.all false
set_option maxRecDepth 100000
set_option maxHeartbeats 4000000
/-! ### draws: the state of a script's draws, and what else is known -/
namespace Mw
open PySem PySem.Spec PyProof.Rows L2

/-- where the state of the draws stands: its dict, its list of wide numbers, its list of cells -/
structure Wd where
  d : Addr
  w : Addr
  c : Addr
/-- what is known besides the state of the draws -/
def mk (W : Wd) (H : Hp) : Hp := fun a => if a = W.d ∨ a = W.w ∨ a = W.c then none else H a
theorem mk_le (W : Wd) (H : Hp) : Same (mk W H) H := fun a o h => by
  unfold mk at h
  split at h
  · cases h
  · exact h
theorem mk_of {W : Wd} {H : Hp} {a : Addr} {o : HO} (h : H a = some o) (hd : a ≠ W.d) (hw : a ≠ W.w) (hc : a ≠ W.c) : mk W H a = some o := by
  unfold mk
  rw [if_neg (fun z => z.elim hd fun z => z.elim hw hc)]
  exact h
theorem mk_d {W : Wd} {H : Hp} : mk W H W.d = none := by
  unfold mk
  rw [if_pos (Or.inl rfl)]
theorem mk_w {W : Wd} {H : Hp} : mk W H W.w = none := by
  unfold mk
  rw [if_pos (Or.inr (Or.inl rfl))]
theorem mk_c {W : Wd} {H : Hp} : mk W H W.c = none := by
  unfold mk
  rw [if_pos (Or.inr (Or.inr rfl))]
theorem mk_none {W : Wd} {H : Hp} {a : Addr} (h : H a = none) : mk W H a = none := by
  unfold mk
  split
  · rfl
  · exact h
theorem mk_same {W : Wd} {H H' : Hp} (e : Same H H') : Same (mk W H) (mk W H') := fun a o h => by
  unfold mk at h ⊢
  split at h
  · cases h
  · rename_i z
    rw [if_neg z]
    exact e a o h
/-- draws change nothing else -/
theorem mk_upd_d {W : Wd} {H : Hp} {o : HO} : mk W (upd H W.d o) = mk W H := by
  funext a
  unfold mk
  split
  · rfl
  · rename_i z
    rw [upd_ne (fun e => z (Or.inl e))]
theorem mk_upd_w {W : Wd} {H : Hp} {o : HO} : mk W (upd H W.w o) = mk W H := by
  funext a
  unfold mk
  split
  · rfl
  · rename_i z
    rw [upd_ne (fun e => z (Or.inr (Or.inl e)))]
def kvs0 (W : Wd) (r t : Int) : List (Key × V) := [(.inr "wide", .ref W.w), (.inr "cells", .ref W.c), (.inr "rest", .int r), (.inr "turn", .int t)]
theorem kv_wide (W : Wd) (r t : Int) : valV (kvs0 W r t) (.inr "wide" : Key) = some (.ref W.w) := by rfl
theorem kv_cells (W : Wd) (r t : Int) : valV (kvs0 W r t) (.inr "cells" : Key) = some (.ref W.c) := by rfl
theorem kv_rest (W : Wd) (r t : Int) : valV (kvs0 W r t) (.inr "rest" : Key) = some (.int r) := by rfl
theorem kv_turn (W : Wd) (r t : Int) : valV (kvs0 W r t) (.inr "turn" : Key) = some (.int t) := by rfl
theorem pk_rest (W : Wd) (r t r' : Int) : putK (kvs0 W r t) (.inr "rest" : Key) (.int r') = kvs0 W r' t := by rfl
theorem pk_turn (W : Wd) (r t t' : Int) : putK (kvs0 W r t) (.inr "turn" : Key) (.int t') = kvs0 W r t' := by rfl
structure StAt (W : Wd) (r t : Int) (ns cs : List Int) (H : Hp) : Prop where
  d : H W.d = some (.dK (kvs0 W r t))
  w : H W.w = some (.lst (ns.map V.int))
  c : H W.c = some (.lst (cs.map V.int))
  ne : W.c ≠ W.w
  cs : ∀ x ∈ cs, 0 ≤ x ∧ x < 2147483629
  t0 : 0 ≤ t
/-- the state stands, at most n more numbers were mixed -/
def StOk (W : Wd) (n : Nat) (H : Hp) : Prop := ∃ (r t : Int) (ns cs : List Int), StAt W r t ns cs H ∧ t ≤ n
theorem StAt.nwd {W : Wd} {r t : Int} {ns cs : List Int} {H : Hp} (S : StAt W r t ns cs H) : W.w ≠ W.d := ne_of S.w S.d (by intro z; cases z)
theorem StAt.ncd {W : Wd} {r t : Int} {ns cs : List Int} {H : Hp} (S : StAt W r t ns cs H) : W.c ≠ W.d := ne_of S.c S.d (by intro z; cases z)
theorem StOk.mono {W : Wd} {n m : Nat} {H : Hp} (h : StOk W n H) (l : n ≤ m) : StOk W m H := by
  obtain ⟨r, t, ns, cs, S, ht⟩ := h
  exact ⟨r, t, ns, cs, S, by omega⟩
theorem StOk.same {W : Wd} {n : Nat} {H H' : Hp} (h : StOk W n H) (e : Same H H') : StOk W n H' := by
  obtain ⟨r, t, ns, cs, S, ht⟩ := h
  exact ⟨r, t, ns, cs, ⟨e _ _ S.d, e _ _ S.w, e _ _ S.c, S.ne, S.cs, S.t0⟩, ht⟩
theorem StOk.nd {W : Wd} {n : Nat} {H : Hp} (h : StOk W n H) : H W.d ≠ none := by
  obtain ⟨r, t, ns, cs, S, ht⟩ := h
  rw [S.d]
  exact fun z => nomatch z
theorem StOk.nw {W : Wd} {n : Nat} {H : Hp} (h : StOk W n H) : H W.w ≠ none := by
  obtain ⟨r, t, ns, cs, S, ht⟩ := h
  rw [S.w]
  exact fun z => nomatch z
theorem StOk.nc {W : Wd} {n : Nat} {H : Hp} (h : StOk W n H) : H W.c ≠ none := by
  obtain ⟨r, t, ns, cs, S, ht⟩ := h
  rw [S.c]
  exact fun z => nomatch z
theorem same_upd {H : Hp} {p : Addr} {o : HO} (h : H p = none) : Same H (upd H p o) := fun b x e => by
  rw [upd_ne (ne_of_none e h)]
  exact e
/-- a new object -/
theorem new_at {W : Wd} {n : Nat} {H H1 : Hp} {p : Addr} {o : HO} (S : StOk W n H) (np : H p = none) (e : upd H p o = H1) : StOk W n H1 ∧ Same (mk W H) (mk W H1) ∧ mk W H1 p = some o ∧ mk W H p = none := by
  subst e
  refine ⟨S.same (same_upd np), mk_same (same_upd np), mk_of upd_same (fun z => ?_) (fun z => ?_) (fun z => ?_), mk_none np⟩
  · rw [z] at np
    exact S.nd np
  · rw [z] at np
    exact S.nw np
  · rw [z] at np
    exact S.nc np
/-- an object of one's own changes -/
theorem own_at {W : Wd} {n : Nat} {H H1 : Hp} {p : Addr} {o o' : HO} (S : StOk W n H) (hp : mk W H p = some o') (e : upd H p o = H1) :
    StOk W n H1 ∧ mk W H1 p = some o ∧ ∀ (a : Addr) (u : HO), a ≠ p → mk W H a = some u → mk W H1 a = some u := by
  subst e
  have nd : p ≠ W.d := fun z => by
    rw [z, mk_d] at hp
    cases hp
  have nw : p ≠ W.w := fun z => by
    rw [z, mk_w] at hp
    cases hp
  have nc : p ≠ W.c := fun z => by
    rw [z, mk_c] at hp
    cases hp
  obtain ⟨r, t, ns, cs, S, ht⟩ := S
  refine ⟨⟨r, t, ns, cs, ⟨?_, ?_, ?_, S.ne, S.cs, S.t0⟩, ht⟩, mk_of upd_same nd nw nc, fun a u na h1 => ?_⟩
  · rw [upd_ne nd.symm]
    exact S.d
  · rw [upd_ne nw.symm]
    exact S.w
  · rw [upd_ne nc.symm]
    exact S.c
  · unfold mk at h1 ⊢
    split at h1
    · cases h1
    · rename_i z
      rw [if_neg z, upd_ne na]
      exact h1
/-- what a def sees: what it knows of the heap, and a count of what was drawn -/
structure Wo where
  view : Hp → Hp
  ok : Nat → Hp → Prop
  le : ∀ H, Same (view H) H
  mono : ∀ {n m H}, ok n H → n ≤ m → ok m H
  new : ∀ {n H H1 p o}, ok n H → H p = none → upd H p o = H1 → ok n H1 ∧ Same (view H) (view H1) ∧ view H1 p = some o ∧ view H p = none
  own : ∀ {n H H1 p o o'}, ok n H → view H p = some o' → upd H p o = H1 → ok n H1 ∧ view H1 p = some o ∧ ∀ (a : Addr) (u : HO), a ≠ p → view H a = some u → view H1 a = some u
/-- the world of the draws -/
def wd (W : Wd) : Wo := ⟨mk W, StOk W, mk_le W, fun h l => h.mono l, new_at, own_at⟩
/-- an object of one's own changes: what was known before it was made stands -/
theorem Wo.keep (U : Wo) {H H1 M : Hp} {p : Addr} (o : ∀ (a : Addr) (u : HO), a ≠ p → U.view H a = some u → U.view H1 a = some u) (hM : M p = none) (e : Same M (U.view H)) : Same M (U.view H1) := fun a u h =>
  o a u (ne_of_none h hM) (e a u h)
/-- behind a def that changes nothing that was known -/
theorem adv_same {W : Wd} {n : Nat} {H H1 : Hp} (S : StOk W n H) (e : Same H H1) : StOk W n H1 ∧ Same (mk W H) (mk W H1) := ⟨S.same e, mk_same e⟩

/-! ### the same facts later -/
theorem sqL_at {K : PySem.W.Frag} {H H' : Hp} {a : Addr} {xs : List V} (h : H a = some (.lst xs)) (e : Same H H') : SqL K H' a xs := .inl (.inl (e _ _ h))
theorem sqT_at {K : PySem.W.Frag} {H H' : Hp} {a : Addr} {xs : List V} (h : H a = some (.tup xs)) (e : Same H H') : SqT K H' a xs := .inl (.inl (e _ _ h))
theorem seqT {K : PySem.W.Frag} {H H' : Hp} {a : Addr} {xs : List V} (e : Same H H') (h : SqT K H a xs) : SqT K H' a xs := by
  rcases h with (h | ⟨o, h⟩) | h
  · exact .inl (.inl (e _ _ h))
  · exact .inl (.inr ⟨o, e _ _ h⟩)
  · exact .inr h
end Mw
/-! ### defs that are called where no repr is under way -/
namespace Mw
open PySem PySem.Spec PyProof.Rows L2

/-- room for k calls, and nothing is being shown -/
structure Rm (k : Nat) (A : Around) : Prop where
  r : Room k A
  g : A.guards = some []
theorem Rm.mono {j k : Nat} {A : Around} (h : Rm k A) (l : j ≤ k) : Rm j A := ⟨h.r.mono l, h.g⟩
theorem guards_deeper (A : Around) (env : Env) : (A.deeper env).guards = A.guards := rfl
structure FnG (P : Program) (w : World) (K : PySem.W.Frag) (mg : Str → Option Value) (base : Heap) (k : Nat) (f : Addr) (fd : FuncData) (ps : List Str) (sp : Sp) : Prop where
  ln : ∀ vs H Q E, sp vs H Q E → vs.length = ps.length
  go : ∀ (A : Around) (outer : List Env) (s : Shared) (H : Hp) (args : Args) (us : List Value) (vs : List V) (Q : VK) (E : XK), Rm k A → Env0 P w K mg base A outer s H →
    BindsTo s fd args (ps.zip us) → Vals vs us → sp vs H Q E → codeAny (model P w) A (.call (.ref f) args) (CR CX0 outer P w H s Q E) s
section
variable {P : Program} {w : World} {K : PySem.W.Frag} {mg : Str → Option Value} {base : Heap}
theorem FnG.mono {j k : Nat} {f : Addr} {fd : FuncData} {ps : List Str} {sp : Sp} (F : FnG P w K mg base j f fd ps sp) (h : j ≤ k) : FnG P w K mg base k f fd ps sp :=
  ⟨F.ln, fun A outer s H args us vs Q E hr => F.go A outer s H args us vs Q E (hr.mono h)⟩
theorem FnG.of {k : Nat} {f : Addr} {fd : FuncData} {ps : List Str} {sp : Sp} (F : FnOk P w K mg base CX0 k f fd ps sp) : FnG P w K mg base k f fd ps sp :=
  ⟨F.len, fun A outer s H args us vs Q E hr => F.run A outer s H args us vs Q E hr.r⟩
/-- the end of a def's body -/
theorem body_end {X : Cx} {Q : VK} {fl : Flow} {s' : Shared} (h : SP X [] { nx := fun _ H' => Q .non H', rt := Q } fl s') :
    match (Except.ok fl : Result) with
    | .ok .next => ∃ v σ' H', Inv X [] σ' H' s' ∧ RelV v Value.none ∧ Q v H'
    | .ok (.ret u) => ∃ v σ' H', Inv X [] σ' H' s' ∧ RelV v u ∧ Q v H'
    | _ => False := by
  cases fl with
  | next =>
    obtain ⟨a, b, c, d⟩ := h
    exact ⟨.non, a, b, c, rfl, d⟩
  | ret u =>
    obtain ⟨v, a, b, c, r, d⟩ := h
    exact ⟨v, a, b, c, r, d⟩
  | brk =>
    obtain ⟨_, _, _, z⟩ := h
    exact z
  | cont =>
    obtain ⟨_, _, _, z⟩ := h
    exact z
theorem fnG {x qual : Str} {st : Stmt} {f : Addr} {fd : FuncData} {N ps : List Str} {k : Nat} {sp : Sp} (F : Fun K x qual st f fd) (S : FnScope N ps (defScope st)) (ln : ∀ vs H Q E, sp vs H Q E → vs.length = ps.length)
    (body : ∀ (cdv : Value) (A : Around) (outer : List Env) (s : Shared) (H : Hp) (vs : List V) (Q : VK) (E : XK), Rm k (A.deeper (envOfC qual (defScope st) s.heap.objs.size f cdv)) → sp vs H Q E →
      ∃ t, PSs (cxOf CX0 P w K mg base N qual (defScope st) f cdv A outer s H E).nox (defBody st) t ∧ t { nx := fun _ H' => Q .non H', rt := Q } (start N vs) H) : FnG P w K mg base (k + 1) f fd ps sp := by
  obtain ⟨oc, od, kV, doc, pm, an, cdv, ct, osl, rfl, look, code⟩ := F.ex
  refine ⟨ln, ?_⟩
  intro A outer s H args us vs Q E room e0 binds rel promise
  have stay : ∀ b o, base.get? b = some o → s.heap.get? b = some o := fun b o z => (e0.bs b o z).1
  have inK : K.In s.heap := e0.mod.kin.keeps stay
  have named : ∀ y ∈ ps.zip us, (defScope st).names.lookup y.1 = some .local ∨ ((defScope st).names.lookup y.1 = some .cell ∧ ((cellsFrom (s.heap.objs.size + 1) (defScope st).names []).lookup y.1).isSome = true) := by
    intro y hy
    have hp : y.1 ∈ ps := (List.of_mem_zip (a := y.1) (b := y.2) hy).1
    cases S.par y.1 hp with
    | inl z => exact .inl z
    | inr z => exact .inr ⟨z, PySem.W.cellsFrom_some _ _ _ (.inl z)⟩
  refine codeAny_call_function room.r.depth (inK _ _ look) rfl S.co S.gen rfl (PySem.W.codeRec_of inK code) (binds _ _ _ _ ?_)
  refine wpAny_newFunctionEnv_cells S.kind named ?_
  intro env same s1 began
  cases same
  refine ⟨(e0.mod.nolimit.keeps stay).keeps began.toInCall.keep, codeAny_func ?_⟩
  obtain ⟨t, ht, hq⟩ := body cdv A outer s H vs Q E ⟨room.r.deeper _, room.g⟩ promise
  have I := inv_start (CX := CX0) (E := E) (qual := qual) (N := N) S room.r.hd e0 (ln _ _ _ _ promise) rel began
  have leave : ∀ {σ' : L2.St} {H' : Hp} {v : V} {u : Value} {s' : Shared}, Inv (cxOf CX0 P w K mg base N qual (defScope st) f cdv A outer s H E) [] σ' H' s' → RelV v u → Q v H' → CE outer P w H s Q u s' := by
    intro σ' H' v u s' J rv q
    exact ⟨v, H', J.os, J.bare, J.base, J.hok, rv, q⟩
  refine wpAny_mono (ht.nox.run [] s1 (start N vs) H _ I hq) ?_ ?_
  · intro fl s' done
    have z := body_end done
    cases fl with
    | next =>
      obtain ⟨v, σ', H', J, r, q⟩ := z
      exact leave J r q
    | ret u =>
      obtain ⟨v, σ', H', J, r, q⟩ := z
      exact leave J r q
    | brk => exact z.elim
    | cont => exact z.elim
  · intro e s' z
    exact z
end
theorem passAny {X : Cx} {E : XK} : Passes CX0 X E := fun _ _ _ _ _ _ _ h => h.elim
/-- a def of the top that lets no error out: where it stands, how it binds, what it promises -/
structure Def (P : Program) (w : World) (K : PySem.W.Frag) (mg : Str → Option Value) (base : Heap) (x : Str) (k : Nat) (ps : List Str) (sp : Sp) : Prop where
  ex : ∃ (f : Addr) (fd : FuncData), mg x = some (.ref f) ∧ PySem.W.keepIn K (.ref f) = true ∧ Binds K fd ps [] ∧ FnG P w K mg base k f fd ps sp
section
variable {X : Cx} {k : Nat} {ps : List Str} {sp : Sp} {x : Str} {p pos : Pos} {e : Expr} {es : List Expr} {t : TA}
/-- behind a call of such a def -/
theorem callG {pins : List (Addr × Obj)} {σ : L2.St} {H : Hp} {s : Shared} {Q : VK} {f : Addr} {fd : FuncData} {args : Args} {us : List Value} {vs : List V} (F : FnG X.prog X.w X.K X.mg X.base k f fd ps sp) (hr : Rm k X.A)
    (hb : BindsTo s fd args (ps.zip us)) (I : Inv X pins σ H s) (r : Vals vs us) (h : sp vs H Q (fun _ _ _ => False)) : codeAny (model X.prog X.w) X.A (.call (.ref f) args) (fun r s' => match r with | .ok (.ret u) => EP X pins σ Q u s' | _ => False) s := by
  refine codeAny_mono (F.go X.A X.stack s H args us vs Q (fun _ _ _ => False) hr I.env0 hb r h) ?_
  intro res s' done
  cases res with
  | error e => exact (show False from done).elim
  | ok fl =>
    cases fl with
    | ret u => exact I.after done
    | next => exact done.elim
    | brk => exact done.elim
    | cont => exact done.elim
def tGo (sp : Sp) (t : TA) : TE := fun σ H Q => t σ H fun vs H1 => sp vs H1 Q (fun _ _ _ => False)
theorem pe_go (D : Def X.prog X.w X.K X.mg X.base x k ps sp) {j : Nat} (hr : Rm j X.A) (ha : PA X (e :: es) t) (hj : k ≤ j := by decide) (hg : Gl X x := by rfl) (hdb : (x == ("__debug__" : Str)) = false := by decide)
    (he : starEach (e :: es) X.env = (false, eval e X.env) :: starEach es X.env := by rfl) (hpl : (backTo pos (starEach es X.env)).any (·.1) = false := by rfl) :
    PE X (.Call (.Name x p) (e :: es) [] pos) (tGo sp t) := by
  obtain ⟨f, fd, g, kp, b, F⟩ := D.ex
  constructor
  intro pins s σ H Q I h
  refine wpAny_Call_Name_kw (ld_glob I hg g ?_ hdb)
  refine PySem.W.callWith_K (h₀ := X.base) I.ok.mod.kin kp (thn (ha.run pos pins s σ H _ I h) ?_) he hpl
  rintro us s1 ⟨vs, H1, I1, r, q⟩
  refine ⟨I1.kIn, wpAny_call (codeAny_mono (callG F (hr.mono hj) (us := us) ?_ I1 r q) ?_)⟩
  · have z := b s1 us I1.kIn (by rw [List.append_nil, ← r.length]; exact F.ln _ _ _ _ q)
    rwa [List.append_nil] at z
  · intro res s' z
    cases res with
    | error e => exact z.elim
    | ok fl =>
      cases fl with
      | ret u => exact z
      | next => exact z.elim
      | brk => exact z.elim
      | cont => exact z.elim
/-- a call by keywords alone -/
structure DefK (P : Program) (w : World) (K : PySem.W.Frag) (mg : Str → Option Value) (base : Heap) (x : Str) (k : Nat) (ps ks : List Str) (gV : List V → List V) (sp : Sp) : Prop where
  ex : ∃ (f : Addr) (fd : FuncData) (g : List Value → List Value → List Value), mg x = some (.ref f) ∧ PySem.W.keepIn K (.ref f) = true ∧ KBn K fd ps 0 ks g (fun _ zs => gV zs) ∧ FnG P w K mg base k f fd ps sp
def tGoK (n : Nat) (sp : Sp) (gV : List V → List V) (tk : TA) : TE := fun σ H Q => tk σ H fun zs H1 => zs.length = n ∧ sp (gV zs) H1 Q (fun _ _ _ => False)
theorem pe_goK {kws : List Keyword} {ks : List Str} {gV : List V → List V} {tk : TA} (D : DefK X.prog X.w X.K X.mg X.base x k ps ks gV sp) {j : Nat} (hr : Rm j X.A) (hkw : PK X kws tk) (hj : k ≤ j := by decide) (hg : Gl X x := by rfl)
    (hall : (backToKw pos (keywordEach kws X.env)).all (·.1.isSome) = true := by rfl) (hks : (backToKw pos (keywordEach kws X.env)).filterMap (·.1) = ks := by rfl) (hdb : (x == ("__debug__" : Str)) = false := by decide)
    (plain : ((backTo pos (starEach [] X.env)).any (·.1) || (backToKw pos (keywordEach kws X.env)).any (·.1.isNone)) = false := by rfl) :
    PE X (.Call (.Name x p) [] kws pos) (tGoK ks.length sp gV tk) := by
  obtain ⟨f, fd, g, hm, kp, b, F⟩ := D.ex
  constructor
  intro pins s σ H Q I h
  refine wpAny_Call_Name_kw (ld_glob I hg hm ?_ hdb)
  refine PySem.W.callWith_KW0 (h₀ := X.base) I.ok.mod.kin kp hall ?_ plain
  refine thn (hkw.run pos pins s σ H _ I h) ?_
  rintro ws s2 ⟨zs, H2, I2, rz, l2, q2⟩
  refine ⟨I2.kIn, ?_⟩
  rw [hks]
  have rel : Vals (gV zs) (g [] ws) := b.rel (vs := []) .nil rz
  refine wpAny_call (codeAny_mono (callG F (hr.mono hj) (us := g [] ws) (b.to s2 [] ws I2.kIn rfl (rz.length.symm.trans l2)) I2 rel q2) ?_)
  intro res s' z
  cases res with
  | error e => exact z.elim
  | ok fl =>
    cases fl with
    | ret u => exact z
    | next => exact z.elim
    | brk => exact z.elim
    | cont => exact z.elim
end

/-! ### the law's own call -/
section
variable {P : Program} {w : World} {K : PySem.W.Frag} {mg mb : Str → Option Value}
theorem law_at {k : Nat} {fa a : Addr} {fd : FuncData} {x : Str} {sp : Sp} {s₁ : Shared} {vs : List Value} {ns : List Int} {H : Hp}
    (inK : K.In s₁.heap) (G : s₁.heap.Ns mainGlobals mg) (B : s₁.heap.Ns builtinsNs mb) (B2 : ∀ x : Str, x ≠ "__name__" → mb x = bootBuiltins x) (lim : s₁.heap.NoLimit) (gens : s₁.gens = #[])
    (list : ∃ u n, s₁.heap.get? a = some { cls := .type "list", data := .seq u n }) (room : Rm k callerA)
    (F : ∀ base : Heap, K.In base → base.Ns mainGlobals mg → (∃ m, base.Ns sysModules m) → FnG P w K mg base k fa fd [x] sp) (sysm : ∃ m, s₁.heap.Ns sysModules m) (binds : ∀ (s : Shared) (u : Value), BindsTo s fd ⟨[u], []⟩ [(x, u)])
    (sp0 : sp [.ref a] H (fun v _ => v = .bl true) fun _ _ _ => False) (only : Only H) (ok : HOk P w H s₁.heap) (alone : ∀ b, H b ≠ none → b = a) (mine : H a ≠ none → K.lookup a = none) :
    codeAny (model P w) callerA (.call (.ref fa) ⟨[.ref a], []⟩) (fun r s' => r = .ok (.ret (.bool true)) ∧ OldK s₁.heap s'.heap ∧ s'.os = s₁.os ∧ AllBare s'.gens) s₁ := by
  obtain ⟨lu, ln, la⟩ := list
  have free : ∀ {b : Addr} {o : Obj} {es : Array DictEntry} {ep : Nat}, s₁.heap.get? b = some o → o.data = .dict es ep → H b = none := by
    intro b o es ep e d
    apply Classical.byContradiction
    intro z
    rw [alone b z, la] at e
    cases e
    cases d
  have ns : ∀ {b : Addr} {m : Str → Option Value}, s₁.heap.Ns b m → (hidT s₁.heap H).Ns b m := by
    rintro b m ⟨o, es, ep, e, d, r⟩
    exact ⟨o, es, ep, hidT_get e (free e d), d, r⟩
  have baseK : K.In (hidT s₁.heap H) := by
    intro b o e
    refine hidT_get (inK b o e) ?_
    apply Classical.byContradiction
    intro z
    have eb := alone b z
    rw [eb] at e z
    rw [mine z] at e
    cases e
  have M : Mod K mg (hidT s₁.heap H) := by
    refine ⟨baseK, ns G, ⟨mb, ns B, B2⟩, ?_⟩
    obtain ⟨mc, h1, h2⟩ := lim
    exact ⟨mc, ns h1, h2⟩
  have e0 : Env0 P w K mg (hidT s₁.heap H) callerA [] s₁ H := by
    refine ⟨rfl, M, fun b o e => of_hidT e, Nat.le_of_eq (hidT_size _ _), trivial, ?_, ok, .of_eq gens⟩
    intro b hb
    cases hb
  refine codeAny_mono ((F _ baseK (ns G) (sysm.elim fun m z => ⟨m, ns z⟩)).go callerA [] s₁ H ⟨[.ref a], []⟩ [.ref a] [.ref a] _ _ room e0 (binds s₁ (.ref a)) (.cons rfl .nil) sp0) ?_
  intro res s' done
  cases res with
  | error e => exact (show False from done).elim
  | ok fl =>
    cases fl with
    | next => exact done.elim
    | brk => exact done.elim
    | cont => exact done.elim
    | ret u =>
      obtain ⟨v, H', os, bare, un, ok', rel, q⟩ := done
      obtain rfl : v = .bl true := q
      obtain rfl : u = Value.bool true := rel
      refine ⟨rfl, OldK.of_keep ?_, os, bare⟩
      intro b o e
      cases z : H b with
      | none => exact un.keep b o e z (fun y => nomatch y) (fun y => nomatch y)
      | some u =>
        cases only b with
        | inl y =>
          rw [z] at y
          cases y
        | inr y =>
          obtain ⟨ob, xs, y⟩ := y
          obtain ⟨e1, _⟩ := ok b _ y
          obtain ⟨e2, _⟩ := ok' b _ (un.frzs b ob _ y)
          rw [e] at e1
          cases e1
          exact e2
theorem law_callG {k : Nat} {fa a : Addr} {fd : FuncData} {x : Str} {sp : Sp} {s₁ : Shared} {vs : List Value} {ns : List Int}
    (inK : K.In s₁.heap) (G : s₁.heap.Ns mainGlobals mg) (B : s₁.heap.Ns builtinsNs mb) (B2 : ∀ x : Str, x ≠ "__name__" → mb x = bootBuiltins x) (lim : s₁.heap.NoLimit) (gens : s₁.gens = #[])
    (ha : s₁.heap.get? a = some { cls := .type "list", data := .seq vs.toArray }) (isInts : IntsAre vs ns) (size : ns.length ≤ sizeLine) (room : Rm k callerA)
    (F : ∀ base : Heap, K.In base → base.Ns mainGlobals mg → (∃ m, base.Ns sysModules m) → FnG P w K mg base k fa fd [x] sp) (sysm : ∃ m, s₁.heap.Ns sysModules m) (binds : ∀ (s : Shared) (u : Value), BindsTo s fd ⟨[u], []⟩ [(x, u)])
    (hsp : ∀ H : Hp, Only H → SqL K H a (ns.map V.int) → sp [.ref a] H (fun v _ => v = .bl true) fun _ _ _ => False) :
    codeAny (model P w) callerA (.call (.ref fa) ⟨[.ref a], []⟩) (fun r s' => r = .ok (.ret (.bool true)) ∧ OldK s₁.heap s'.heap ∧ s'.os = s₁.os ∧ AllBare s'.gens) s₁ := by
  have rv := vals_ints isInts
  have len := isInts.length
  cases hk : K.lookup a with
  | some o =>
    have e := inK a o hk
    rw [ha] at e
    cases e
    have only : Only (fun _ => none) := fun _ => .inl rfl
    have seq : SqL K (fun _ => none) a (ns.map V.int) := .inr ⟨_, vs.toArray, _, hk, rfl, rfl, rfl, by rw [List.size_toArray, len]; exact size, by simpa using rv⟩
    exact law_at inK G B B2 lim gens ⟨_, _, ha⟩ room F sysm binds (hsp _ only seq) only (fun b u z => nomatch z) (fun b z => absurd rfl z) (fun z => absurd rfl z) (vs := vs) (ns := ns)
  | none =>
    let script : Hp := upd (fun _ => none) a (.frz { cls := .type "list", data := .seq vs.toArray } (.lst (ns.map V.int)))
    have at_ : script a = some (.frz { cls := .type "list", data := .seq vs.toArray } (.lst (ns.map V.int))) := upd_same
    have off : ∀ b, b ≠ a → script b = none := fun b hb => upd_ne hb
    have only : Only script := by
      intro b
      by_cases hb : b = a
      · subst hb
        exact .inr ⟨_, _, at_⟩
      · exact .inl (off b hb)
    refine law_at (H := script) inK G B B2 lim gens ⟨_, _, ha⟩ room F sysm binds (hsp _ only (.inl (.inr ⟨_, at_⟩))) only ?_ ?_ (fun _ => hk) (vs := vs) (ns := ns)
    · intro b u z
      by_cases hb : b = a
      · subst hb
        rw [at_] at z
        cases z
        refine ⟨ha, ?_, vs, _, rv, ha⟩
        rw [List.length_map]
        exact size
      · rw [off b hb] at z
        cases z
    · intro b z
      apply Classical.byContradiction
      intro hb
      exact z (off b hb)
end
theorem walk_G {l : PySem.W.OpenLaw} {n k : Nat} {q : Program} {loose : List Str} {XP : (Str → Option Value) → Heap → Prop} {YP : World → Heap → Prop} {d : DefRec} {K : Params → PySem.W.Frag} {sp : PySem.W.Frag → Sp} {x : Str}
    (most : l.most = some n) (small : n ≤ sizeLine) (plain : d.params.defaults = []) (room : Rm k callerA) (bare : importsNone q = true) (hY : ∀ (w : World) (h : Heap), YP w h → (K w.params).In h)
    (F : ∀ (w : World) (mg : Str → Option Value) (fa : Addr) (h : Heap), (K w.params).In h → h.Ns mainGlobals mg → mg d.name = some (.ref fa) →
      ∃ fd : FuncData, (∀ (s : Shared) (u : Value), BindsTo s fd ⟨[u], []⟩ [(x, u)]) ∧ ∀ base : Heap, (K w.params).In base → base.Ns mainGlobals mg → (∃ m, base.Ns sysModules m) → FnG l.prog w (K w.params) mg base k fa fd [x] (sp (K w.params)))
    (hsp : ∀ (K : PySem.W.Frag) (H : Hp) (a : Addr) (ns : List Int), ns.length ≤ n → (∀ z ∈ ns, Builtin.Int.intBits z ≤ 1048576) → Only H → SqL K H a (ns.map V.int) → sp K [.ref a] H (fun v _ => v = .bl true) fun _ _ _ => False) :
    PySem.W.WalkO q loose XP YP l.row.toRowW d [] (fun f vs => PySem.call f vs) := by
  refine Att.attach_callB most plain ?_
  intro w s₀ s₁ mg mb fa o pm cd doc a vs ns G Y ho hd hcd hmg hobj hints hlen hbits hg
  have inK := hY w _ Y
  obtain ⟨fd, hb, hF⟩ := F w mg fa _ inK G.T.g hmg
  refine law_callG inK G.T.g G.T.b G.T.builtins G.T.nolimit hg hobj hints (Nat.le_trans hlen small) room hF ((G.T.seer bare).mods.elim fun m z => ⟨m, z.1⟩) hb ?_
  intro H hO hS
  exact hsp _ H a ns hlen hbits hO hS
end Mw
namespace Mw
open PySem PySem.Spec PyProof.Rows L2
/-! ### readings, a step at a time -/
section
variable {σ : L2.St} {H : Hp} {Q : VK} {QA : List V → Hp → Prop} {D : Ends} {ta tb te : TE} {t : TA} {i : Nat} {v x y : V} {K : PySem.W.Frag}
theorem rd_var (h : σ[i]? = some (some v)) (q : Q v H) : tVar i σ H Q := ⟨v, h, q⟩
theorem rd_c (q : Q v H) : tC v σ H Q := q
theorem rd_op {r : R2} (q : ta σ H fun x H1 => tb σ H1 fun y H2 => r x y H2 Q) : tOp r ta tb σ H Q := q
theorem rd_un {r : V → Hp → VK → Prop} (q : ta σ H fun x H1 => r x H1 Q) : tUn r ta σ H Q := q
theorem rd_I0 {g : Int → Int → V} {a b : Int} (q : Q (g a b) H) : rI0 g (.int a) (.int b) H Q := ⟨a, b, rfl, rfl, q⟩
theorem rd_U {g : Int → V} {a : Int} (q : Q (g a) H) : rU g (.int a) H Q := ⟨a, rfl, q⟩
theorem rd_nil (q : QA [] H) : tNil σ H QA := q
theorem rd_cons (q : ta σ H fun x H1 => t σ H1 fun xs H2 => QA (x :: xs) H2) : tCons ta t σ H QA := q
theorem rd_go {sp : Sp} (q : t σ H fun vs H1 => sp vs H1 Q (fun _ _ _ => False)) : tGo sp t σ H Q := q
theorem rd_cb {r : List V → Hp → VK → Prop} (q : t σ H fun vs H1 => r vs H1 Q) : tCB r t σ H Q := q
theorem rd_dget {k : Key} {a : Addr} {kvs : List (Key × V)} {td ty : TE} (q : td σ H fun x H1 => ty σ H1 fun y H2 => ∃ a v, x = .ref a ∧ DGet H2 a y (some v) ∧ Q v H2) : tDGet td ty σ H Q := q
theorem rd_tup (q : t σ H fun xs H1 => xs.length ≤ sizeLine ∧ ∀ p, H1 p = none → Q (.ref p) (upd H1 p (.tup xs))) : tTup t σ H Q := q
theorem rd_lst (q : t σ H fun xs H1 => xs.length ≤ sizeLine ∧ ∀ p, H1 p = none → Q (.ref p) (upd H1 p (.lst xs))) : tLst t σ H Q := q
theorem rd_asg {g : TG} (q : te σ H fun x H1 => g x σ H1 D.nx) : tAsg te g D σ H := q
theorem rd_name {N : L2.St → Hp → Prop} (q : N (σ.set i (some v)) H) : gName i v σ H N := q
theorem rd_seq {t u : TS} (q : t { D with nx := u D } σ H) : tSeq t u D σ H := q
theorem rd_ret (q : te σ H D.rt) : tRet te D σ H := q
theorem rd_drop (q : te σ H fun _ H1 => D.nx σ H1) : tDrop te D σ H := q
theorem rd_par {j : Nat} (q : t σ H fun vs H1 => ∃ v w, vs = [v, w] ∧ D.nx ((σ.set i (some v)).set j (some w)) H1) : tPar i j t D σ H := q
theorem rd_if {tc : TT} {t u : TS} (q : tc σ H fun b H1 => if b = true then t D σ H1 else u D σ H1) : tIfS tc t u D σ H := q
theorem rd_next (q : D.nx σ H) : tNext D σ H := q
theorem rd_test {QT : Bool → Hp → Prop} (q : te σ H fun x H1 => ∃ k, x = .bl k ∧ QT k H1) : tTest te σ H QT := q
theorem rd_bm {r : V → List V → Hp → VK → Prop} {T : String} (q : ta σ H fun x H1 => tyV K T x H1 ∧ t σ H1 fun xs H2 => r x xs H2 Q) : tBM K T r ta t σ H Q := q
theorem rd_bm0 {r : V → List V → Hp → VK → Prop} {T : String} (q : ta σ H fun x H1 => tyV K T x H1 ∧ r x [] H1 Q) : tBM0 K T r ta σ H Q := q
theorem rd_ife {tt : TT} (q : tt σ H fun c H1 => if c = true then ta σ H1 Q else tb σ H1 Q) : tIf tt ta tb σ H Q := q
theorem rd_not {tt : TT} {QT : Bool → Hp → Prop} (q : tt σ H fun c H1 => QT (!c) H1) : tNot tt σ H QT := q
theorem rd_and {t1 t2 : TT} {QT : Bool → Hp → Prop} (q : t1 σ H fun c H1 => if c = true then t2 σ H1 QT else QT false H1) : tAnd t1 t2 σ H QT := q
theorem rd_or {t1 t2 : TT} {QT : Bool → Hp → Prop} (q : t1 σ H fun c H1 => if c = true then QT true H1 else t2 σ H1 QT) : tOr t1 t2 σ H QT := q
theorem rd_B {QT : Bool → Hp → Prop} (q : te σ H fun x H1 => ∃ c, x = .bl c ∧ QT c H1) : tB te σ H QT := q
theorem rd_andV (q : ta σ H fun x H1 => ∃ c, x = .bl c ∧ if c = true then tb σ H1 Q else Q (.bl false) H1) : tAndV ta tb σ H Q := q
theorem rd_orV (q : ta σ H fun x H1 => ∃ c, x = .bl c ∧ if c = true then Q (.bl true) H1 else tb σ H1 Q) : tOrV ta tb σ H Q := q
theorem rd_notV (q : ta σ H fun x H1 => ∃ c, x = .bl c ∧ Q (.bl (!c)) H1) : tNotV ta σ H Q := q
theorem rd_bl {b : Bool} {N : Bool → Prop} (q : N b) : ∃ k, V.bl b = .bl k ∧ N k := ⟨b, rfl, q⟩
theorem rd_ppc {tk tv : TE} {r : List (TE × TE)} {QP : List (V × V) → Hp → Prop} (q : tk σ H fun x H1 => tv σ H1 fun y H2 => tPairs r σ H2 fun ps H3 => QP ((x, y) :: ps) H3) : tPairs ((tk, tv) :: r) σ H QP := q
theorem rd_ppn {QP : List (V × V) → Hp → Prop} (q : QP [] H) : tPairs [] σ H QP := q
theorem rd_i1 {a : Int} {N : Int → Prop} (q : N a) : ∃ i, [V.int a] = [V.int i] ∧ N i := ⟨a, rfl, q⟩
theorem rd_int1 {a : Int} {N : Int → Prop} {R : Prop} (q : N a) : (∃ i, [V.int a] = [V.int i] ∧ N i) ∨ R := .inl ⟨a, rfl, q⟩
theorem rd_I {C : Int → Int → Prop} {g : Int → Int → V} {a b : Int} (c : C a b) (q : Q (g a b) H) : rI C g (.int a) (.int b) H Q := ⟨a, b, rfl, rfl, c, q⟩
theorem int_at {ns : List Int} {i : Nat} {x : V} (h : (ns.map V.int)[i]? = some x) : ∃ z, ns[i]? = some z ∧ x = .int z := by
  rw [List.getElem?_map] at h
  cases e : ns[i]? with
  | none =>
    rw [e] at h
    cases h
  | some z =>
    rw [e] at h
    exact ⟨z, rfl, (Option.some.inj h).symm⟩
theorem rd_yes {QT : Bool → Hp → Prop} (q : QT true H) : tYes σ H QT := q
theorem snoc_int (ms : List Int) (z : Int) : ms.map V.int ++ [V.int z] = (ms ++ [z]).map V.int := by rw [List.map_append] <;> rfl
theorem rd_two {N : V → V → Prop} (q : N x y) : ∃ v w, [x, y] = [v, w] ∧ N v w := ⟨x, y, rfl, q⟩
end
end Mw
local macro_rules | `(tactic| walk_at "mw1") => `(tactic| with_reducible first
  | refine Mw.rd_c ?_ | refine Mw.rd_op ?_ | refine Mw.rd_cons ?_ | refine Mw.rd_nil ?_ | refine Mw.rd_I0 ?_ | refine Mw.rd_go ?_ | refine Mw.rd_cb ?_ | refine Mw.rd_tup ?_ | refine Mw.rd_lst ?_ | refine Mw.rd_asg ?_ | refine Mw.rd_name ?_ | refine Mw.rd_seq ?_ | refine Mw.rd_ret ?_ | refine Mw.rd_drop ?_
  | refine Mw.rd_par ?_ | refine Mw.rd_if ?_ | refine Mw.rd_next ?_ | refine Mw.rd_test ?_ | refine Mw.rd_bm ?_ | refine Mw.rd_bm0 ?_ | refine Mw.rd_ife ?_ | refine Mw.rd_not ?_ | refine Mw.rd_and ?_ | refine Mw.rd_or ?_ | refine Mw.rd_B ?_ | refine Mw.rd_andV ?_ | refine Mw.rd_orV ?_ | refine Mw.rd_notV ?_ | refine Mw.rd_bl ?_ | refine Mw.rd_two ?_ | refine Mw.rd_un ?_ | refine Mw.rd_U ?_ | refine Mw.rd_i1 ?_ | (refine Mw.rd_int1 ?_; try dsimp only) | refine Mw.rd_yes ?_ | refine L2.iteT ?_ | refine L2.iteF ?_ | refine Mw.rd_ppc ?_ | refine Mw.rd_ppn ?_)
local macro_rules | `(tactic| walk_at "mwv") => `(tactic| ((with_reducible refine Mw.rd_var (v := ?v) ?h ?_); (case h => exact rfl)))
local macro_rules | `(tactic| walk_at "mwc") => `(tactic| ((with_reducible refine Mw.rd_I ?c ?_); (case c => first | exact ⟨by decide, by decide, by decide⟩ | exact ⟨by decide, by decide⟩ | exact Or.inl ⟨by decide, by decide⟩ | exact Or.inr ⟨by decide, by decide⟩ | decide | (dsimp only; decide))))
local macro_rules | `(tactic| walk_at "mw") => `(tactic| repeat (first | walk_at "mwv" | walk_at "mw1" | walk_at "mwc"))

namespace Mw
open PySem PySem.Spec PyProof.Rows L2
def topS (i : Nat) : Stmt := PySem.Challenge.pw_markedways_k01_errors_apart.main.body.getD i (.Pass ⟨0, 0, 0, 0⟩)
abbrev s_copied : Stmt := topS 2
theorem sc_copied : FnScope ["thing", "levels", "item", "key"] ["thing", "levels"] (defScope s_copied) := ⟨rfl, rfl, rfl, by decide +kernel, rfl, by decide +kernel, by decide +kernel⟩
abbrev s__law_begun : Stmt := topS 26
theorem sc__law_begun : FnScope ["script", "wide", "cell"] ["script"] (defScope s__law_begun) := ⟨rfl, rfl, rfl, by decide +kernel, rfl, by decide +kernel, by decide +kernel⟩
abbrev s__law_mixed : Stmt := topS 27
theorem sc__law_mixed : FnScope ["state", "prime", "turn", "found", "blend", "cell"] ["state"] (defScope s__law_mixed) := ⟨rfl, rfl, rfl, by decide +kernel, rfl, by decide +kernel, by decide +kernel⟩
abbrev s__law_take : Stmt := topS 28
theorem sc__law_take : FnScope ["state", "size", "found"] ["state", "size"] (defScope s__law_take) := ⟨rfl, rfl, rfl, by decide +kernel, rfl, by decide +kernel, by decide +kernel⟩
abbrev s__law_pick : Stmt := topS 29
theorem sc__law_pick : FnScope ["state", "some"] ["state", "some"] (defScope s__law_pick) := ⟨rfl, rfl, rfl, by decide +kernel, rfl, by decide +kernel, by decide +kernel⟩
abbrev s__law_odd : Stmt := topS 30
theorem sc__law_odd : FnScope ["state", "some"] ["state"] (defScope s__law_odd) := ⟨rfl, rfl, rfl, by decide +kernel, rfl, by decide +kernel, by decide +kernel⟩
abbrev s__law_marks : Stmt := topS 31
theorem sc__law_marks : FnScope ["error", "found"] ["error"] (defScope s__law_marks) := ⟨rfl, rfl, rfl, by decide +kernel, rfl, by decide +kernel, by decide +kernel⟩
abbrev s__law_each : Stmt := topS 32
theorem sc__law_each : FnScope ["matter", "more", "found"] ["matter", "more"] (defScope s__law_each) := ⟨rfl, rfl, rfl, by decide +kernel, rfl, by decide +kernel, by decide +kernel⟩
abbrev s__law_by_name : Stmt := topS 33
theorem sc__law_by_name : FnScope ["matter", "more", "found"] ["matter", "more"] (defScope s__law_by_name) := ⟨rfl, rfl, rfl, by decide +kernel, rfl, by decide +kernel, by decide +kernel⟩
abbrev s__law_kept : Stmt := topS 34
theorem sc__law_kept : FnScope ["some", "found"] ["some"] (defScope s__law_kept) := ⟨rfl, rfl, rfl, by decide +kernel, rfl, by decide +kernel, by decide +kernel⟩
abbrev s__law_keeping : Stmt := topS 35
theorem sc__law_keeping : FnScope ["some", "spot"] ["some"] (defScope s__law_keeping) := ⟨rfl, rfl, rfl, by decide +kernel, rfl, by decide +kernel, by decide +kernel⟩
abbrev s_law : Stmt := topS 36
theorem sc_law : FnScope ["script", "state", "turn", "matter", "more", "some", "others", "spot", "error", "due", "turned", "k"] ["script"] (defScope s_law) := ⟨rfl, rfl, rfl, by decide +kernel, rfl, by decide +kernel, by decide +kernel⟩
/-- the built-ins that the text leaves alone -/
structure Blt (mg : Str → Option Value) : Prop where
  abs : mg "abs" = none
  int : mg "int" = none
  len : mg "len" = none
  list : mg "list" = none
  tuple : mg "tuple" = none
  range : mg "range" = none
  sorted : mg "sorted" = none
  isinstance : mg "isinstance" = none
  str : mg "str" = none
  bool : mg "bool" = none
  all : mg "all" = none
  set : mg "set" = none
  repr : mg "repr" = none
  min : mg "min" = none
  zip : mg "zip" = none
section
variable {P : Program} {w : World} {K : PySem.W.Frag} {mg : Str → Option Value} {base : Heap}
def spBegun (K : PySem.W.Frag) : Sp := fun vs H Q _ => ∃ (a : Addr) (ns : List Int), vs = [.ref a] ∧ SqL K H a (ns.map V.int) ∧ ns.length ≤ 63 ∧
  ∀ (W : Wd) (H' : Hp), Same H H' → StOk W 0 H' → H W.d = none → H W.w = none → Q (.ref W.d) H'
theorem ok_begun {f : Addr} {fd : FuncData} (F : Fun K "_law_begun" "_law_begun" s__law_begun f fd) (T : Blt mg) : FnG P w K mg base 1 f fd ["script"] (spBegun K) := by
  refine fnG F sc__law_begun (fun vs H Q E h => ?_) (fun cdv A outer s H vs Q E hr h => ?_)
  · obtain ⟨a, ns, rfl, _⟩ := h
    rfl
  · obtain ⟨a, ns, rfl, hS, hl, q⟩ := h
    have hu := hu_of hr.r
    refine ⟨_, pss_cons (ps_setLc (i := 1) (own := [("cell", 2)]) (g := gName 2) rfl sc__law_begun.nd rfl rfl (sw_true rfl rfl rfl (by decide +kernel)) (pi_list (pv 0)) (blkOk_by (N := ["script", "wide", "cell"]) (sc := defScope s__law_begun) (by decide +kernel)) (fun _ _ _ _ _ => (pg_name (i := 2) sc__law_begun.nd rfl (.inl rfl))) (fun _ _ _ _ _ => pts_one (pt_cmpR op_ge (pe_callB call_abs (by rfl) T.abs (by decide +kernel) (pa_cons (pv 2) pa_nil)) (pe_op op_pow pe_int pe_int) (nomark _))) (fun _ _ _ _ _ => (pe_op op_sub (pe_callB call_abs (by rfl) T.abs (by decide +kernel) (pa_cons (pv 2) pa_nil)) (pe_op op_pow pe_int pe_int))))
        (pss_one (ps_ret (pe_disp (pps_cons pe_str (pv 1) (pps_cons pe_str (pe_lc (own := [("cell", 2)]) (g := gName 2) (tt := tYes) rfl sc__law_begun.nd (pi_list (pv 0)) (blkOk_by (N := ["script", "wide", "cell"]) (sc := defScope s__law_begun) (by decide +kernel)) (fun _ _ _ _ _ => (pg_name (i := 2) sc__law_begun.nd rfl (.inl rfl))) (fun _ _ _ _ _ => pts_nil) (fun _ _ _ _ _ => (pe_op op_mod (pe_callTy call_int1 (by rfl) T.int (by decide +kernel) (pa_cons (pe_callB call_abs (by rfl) T.abs (by decide +kernel) (pa_cons (pv 2) pa_nil)) pa_nil)) pe_int))) (pps_cons pe_str pe_int (pps_cons pe_str pe_int pps_nil)))) (by rfl) (by rfl) (fun z => by cases z) (by decide)))), ?_⟩
    walk_at "mw"
    refine ⟨.ref a, rfl, a, rfl, ⟨_, hS⟩, fun D nD => ?_⟩
    refine lc_list (K := K) (a := a) (xs := ns.map V.int) (fun i H' => Same H H' ∧ ∃ ms : List Int, H' D = some (.lst (ms.map V.int)) ∧ ms.length ≤ i) ⟨same_upd nD, [], upd_same, Nat.le_refl _⟩ (fun i H' _ p => p.1.seq hS) ?_ ?_
    · rintro i x H1 hi ⟨e1, ms, hD, hm⟩
      obtain ⟨z, hz, rfl⟩ := int_at hi
      have hil : i < ns.length := (List.getElem?_eq_some_iff.mp hz).1
      refine ⟨rfl, ?_⟩
      walk_at "mw"
      refine ite2 (fun _ => ?_) (fun _ => ⟨e1, ms, hD, by omega⟩)
      walk_at "mw"
      refine ⟨_, hD, (by rw [List.length_map]; exact small1000 (by omega)), ?_⟩
      rw [snoc_int]
      refine ⟨?_, _, upd_same, ?_⟩
      · exact fun b o e => by
          rw [upd_ne (ne_of_none e nD)]
          exact e1 _ _ e
      · rw [List.length_append]
        show ms.length + 1 ≤ i + 1
        omega
    · rintro H1 ⟨e1, ms, hD, hm⟩
      walk_at "mw"
      intro p np
      walk_at "mw"
      have e2 : Same H (upd H1 p (.dK [])) := e1.trans (same_upd np)
      have npD : D ≠ p := ne_of_none hD np
      refine ⟨.ref a, rfl, a, rfl, ⟨_, e2.seq hS⟩, fun C nC => ?_⟩
      have nCD : D ≠ C := ne_of_none (show upd H1 p (.dK []) D = some _ by rw [upd_ne npD]; exact hD) nC
      have nCp : p ≠ C := ne_of_none (show upd H1 p (.dK []) p = some _ from upd_same) nC
      refine lc_list (K := K) (a := a) (xs := ns.map V.int) (fun i H' => Same H H' ∧ H' D = some (.lst (ms.map V.int)) ∧ H' p = some (.dK []) ∧ ∃ cs : List Int, H' C = some (.lst (cs.map V.int)) ∧ cs.length ≤ i ∧ ∀ x ∈ cs, 0 ≤ x ∧ x < 2147483629)
        ⟨e2.trans (same_upd nC), by rw [upd_ne nCD, upd_ne npD]; exact hD, by rw [upd_ne nCp, upd_same], [], upd_same, Nat.le_refl _, fun x hx => nomatch hx⟩ (fun i H' _ q => q.1.seq hS) ?_ ?_
      · rintro i x H2 hi ⟨e3, gD, gp, cs, gC, hc, hr⟩
        obtain ⟨z, hz, rfl⟩ := int_at hi
        have hil : i < ns.length := (List.getElem?_eq_some_iff.mp hz).1
        refine ⟨rfl, ?_⟩

        walk_at "mw"
        have m0 := Int.emod_nonneg (if z < 0 then -z else z) (show (2147483629 : Int) ≠ 0 by decide)
        have m1 := Int.emod_lt_of_pos (if z < 0 then -z else z) (show (0 : Int) < 2147483629 by decide)
        refine ⟨_, gC, (by rw [List.length_map]; exact small1000 (by omega)), ?_⟩
        rw [snoc_int]
        refine ⟨?_, ?_, ?_, _, upd_same, ?_, ?_⟩
        · exact fun b o e => by
            rw [upd_ne (ne_of_none (e2 b o e) nC)]
            exact e3 _ _ e
        · rw [upd_ne nCD]
          exact gD
        · rw [upd_ne nCp]
          exact gp
        · rw [List.length_append]
          show cs.length + 1 ≤ i + 1
          omega
        · intro x hx
          rcases List.mem_append.mp hx with hx | hx
          · exact hr x hx
          · cases List.mem_singleton.mp hx
            exact ⟨m0, m1⟩
      · rintro H2 ⟨e3, gD, gp, cs, gC, hc, hr⟩
        walk_at "mw"
        refine ⟨gp, kvs0 ⟨p, D, C⟩ 0 0, rfl, (by show 4 ≤ 15; decide), ?_⟩
        have npH : H p = none := e1.free np
        refine q ⟨p, D, C⟩ _ (fun b o e => ?_) ⟨0, 0, ms, cs, ⟨?_, ?_, ?_, nCD.symm, hr, Int.le_refl 0⟩, Int.le_refl 0⟩ npH nD
        · rw [upd_ne (ne_of_none e npH)]
          exact e3 _ _ e
        · exact upd_same
        · show upd H2 p _ D = _
          rw [upd_ne npD]
          exact gD
        · show upd H2 p _ C = _
          rw [upd_ne nCp.symm]
          exact gC
end
end Mw
namespace Mw
open PySem PySem.Spec PyProof.Rows L2
section
variable {P : Program} {w : World} {K : PySem.W.Frag} {mg : Str → Option Value} {base : Heap}
def spMixed : Sp := fun vs H Q _ => ∃ (W : Wd) (r t : Int) (ns cs : List Int), vs = [.ref W.d] ∧ StAt W r t ns cs H ∧ t ≤ 1000000000000 ∧
  ∀ (k : Int) (H' : Hp), StAt W r (t + 1) ns cs H' → Same (mk W H) (mk W H') → Q (.int k) H'
theorem primes_at {i : Nat} {p : Int} (h : ([2147483629, 2147483587, 2147483579, 2147483563] : List Int)[i]? = some p) : 0 < p ∧ p < 2147483648 := by
  have hm := List.mem_of_getElem? h
  simp only [List.mem_cons, List.mem_nil_iff, or_false] at hm
  omega
theorem small_pow {b : Int} (h0 : 0 ≤ b) (h1 : b < 9223372036854775808) : CPow b 5 := ⟨by decide, by decide, by
  have : b.natAbs < 9223372036854775808 := by omega
  exact Nat.lt_trans this (by decide)⟩
theorem ok_mixed {f : Addr} {fd : FuncData} (F : Fun K "_law_mixed" "_law_mixed" s__law_mixed f fd) (T : Blt mg) : FnG P w K mg base 1 f fd ["state"] spMixed := by
  refine fnG F sc__law_mixed (fun vs H Q E h => ?_) (fun cdv A outer s H vs Q E hr h => ?_)
  · obtain ⟨W, r, t, ns, cs, rfl, _⟩ := h
    rfl
  · obtain ⟨W, r, t, ns, cs, rfl, S, ht, q⟩ := h
    have hu := hu_of hr.r
    refine ⟨_, pss_cons (ps_par (i := 2) (j := 3) rfl sc__law_mixed.nd rfl rfl (by decide) rfl rfl (pa_cons (pe_op op_add (pe_dget hu (pv 0) pe_str (fun _ _ => rfl)) pe_int) (pa_cons pe_int pa_nil)) (by rfl))
        (pss_cons (ps_dput hu (pv 0) pe_str (pv 2) rfl)
        (pss_cons (ps_for PassesOwn.never rfl (pi_list (pe_lst (pa_cons pe_int (pa_cons pe_int (pa_cons pe_int (pa_cons pe_int pa_nil)))))) (pg_name (i := 1) sc__law_mixed.nd rfl (.inl rfl))
        (pss_cons (ps_set (i := 4) sc__law_mixed.nd rfl (.inl rfl) (pe_op op_add (pe_op op_mul pe_int (pv 2)) (pe_op op_fdiv (pv 1) pe_int)))
          (pss_cons (ps_for PassesOwn.never rfl (pi_list (pe_dget hu (pv 0) pe_str (fun _ _ => rfl))) (pg_name (i := 5) sc__law_mixed.nd rfl (.inl rfl))
          (pss_one (ps_set (i := 4) sc__law_mixed.nd rfl (.inl rfl) (pe_op op_mod (pe_callTy call_int1 (by rfl) T.int (by decide +kernel) (pa_cons (pe_op op_add (pe_op op_add (pe_op op_mul (pv 4) pe_int) (pv 5)) (pv 2)) pa_nil)) (pv 1)))))
          (pss_one (ps_set (i := 3) sc__law_mixed.nd rfl (.inl rfl) (pe_op op_add (pe_op op_mul (pv 3) pe_int) (pe_op op_mod (pe_callTy call_int1 (by rfl) T.int (by decide +kernel) (pa_cons (pe_op op_pow (pv 4) pe_int) pa_nil)) (pv 1))))))))
        (pss_one (ps_ret (pv 3))))), ?_⟩
    have t0 := S.t0
    walk_at "mw"
    -- state["turn"] + 1, 0
    refine ⟨.ref W.d, rfl, W.d, .int t, rfl, ?_, ?_⟩
    · rw [← kv_turn W r t]
      exact DGet.k (k := Sum.inr "turn") S.d
    walk_at "mw"
    -- state["turn"] = turn
    refine ⟨.int (t + 1), rfl, .ref W.d, rfl, W.d, _, rfl, DPut.k (k := Sum.inr "turn") S.d (by show 4 < sizeLine; decide), ?_⟩
    rw [pk_turn]
    have S1 : StAt W r (t + 1) ns cs (upd H W.d (.dK (kvs0 W r (t + 1)))) := ⟨upd_same, by rw [upd_ne S.nwd]; exact S.w, by rw [upd_ne S.ncd]; exact S.c, S.ne, S.cs, by omega⟩
    have e1 : Same (mk W H) (mk W (upd H W.d (.dK (kvs0 W r (t + 1))))) := by
      rw [mk_upd_d]
      exact Same.refl _
    generalize upd H W.d (.dK (kvs0 W r (t + 1))) = H1 at S1 e1
    walk_at "mw"
    -- for prime in [..]
    refine ⟨by show 4 ≤ sizeLine; decide, fun p np => ?_⟩
    have S2 : StAt W r (t + 1) ns cs (upd H1 p (.lst (([2147483629, 2147483587, 2147483579, 2147483563] : List Int).map V.int))) := by
      have e := same_upd (o := .lst (([2147483629, 2147483587, 2147483579, 2147483563] : List Int).map V.int)) np
      exact ⟨e _ _ S1.d, e _ _ S1.w, e _ _ S1.c, S1.ne, S1.cs, S1.t0⟩
    have e2 : Same (mk W H) (mk W (upd H1 p (.lst (([2147483629, 2147483587, 2147483579, 2147483563] : List Int).map V.int)))) := e1.trans (mk_same (same_upd np))
    have hp : SqL K (upd H1 p (.lst (([2147483629, 2147483587, 2147483579, 2147483563] : List Int).map V.int))) p (([2147483629, 2147483587, 2147483579, 2147483563] : List Int).map V.int) := .inl (.inl upd_same)
    refine ⟨p, rfl, ⟨_, hp⟩, ?_⟩
    show ∃ W1 : Nat → Nat → L2.St → Hp → Prop, (∃ m, W1 0 m _ (upd H1 p (.lst (([2147483629, 2147483587, 2147483579, 2147483563] : List Int).map V.int)))) ∧ _
    generalize upd H1 p (.lst (([2147483629, 2147483587, 2147483579, 2147483563] : List Int).map V.int)) = H2 at S2 e2 hp
    refine for_list (K := K) (a := p) (xs := ([2147483629, 2147483587, 2147483579, 2147483563] : List Int).map V.int)
      (fun i σ H' => H' = H2 ∧ ∃ (f : Int) (y1 y4 y5 : Option V), σ = [some (.ref W.d), y1, some (.int (t + 1)), some (.int f), y4, y5]) ⟨rfl, _, _, _, _, rfl⟩ (fun i σ H' _ z => by rw [z.1]; exact hp) ?_ ?_
    · rintro i x σ H' hi ⟨rfl, f, y1, y4, y5, rfl⟩
      obtain ⟨pr, hpr, rfl⟩ := int_at hi
      obtain ⟨p0, p1⟩ := primes_at hpr
      walk_at "mw"
      -- for cell in state["cells"]
      refine ⟨.ref W.d, rfl, W.d, .ref W.c, rfl, ?_, W.c, rfl, ⟨_, .inl (.inl S2.c)⟩, ?_⟩
      · rw [← kv_cells W r (t + 1)]
        exact DGet.k (k := Sum.inr "cells") S2.d
      refine for_list (K := K) (a := W.c) (xs := cs.map V.int)
        (fun i σ H1 => H1 = H' ∧ ∃ (b : Int) (y5 : Option V), 0 ≤ b ∧ b < 9223372036854775808 ∧ σ = [some (.ref W.d), some (.int pr), some (.int (t + 1)), some (.int f), some (.int b), y5]) ⟨rfl, _, _, ?_, ?_, rfl⟩ (fun i σ H1 _ z => by rw [z.1]; exact .inl (.inl S2.c)) ?_ ?_
      · omega
      · omega
      · rintro j y σ H1 hj ⟨rfl, b, y5, b0, b1, rfl⟩
        obtain ⟨c, hc, rfl⟩ := int_at hj
        walk_at "mw"
        refine rd_I p0 ?_
        walk_at "mw"
        have m0 := Int.emod_nonneg (b * 48271 + c + (t + 1)) (show pr ≠ 0 by omega)
        have m1 := Int.emod_lt_of_pos (b * 48271 + c + (t + 1)) p0
        exact ⟨rfl, _, _, m0, by omega, rfl⟩
      · rintro σ H1 ⟨rfl, b, y5, b0, b1, rfl⟩
        walk_at "mw"
        refine rd_I (small_pow b0 b1) ?_
        walk_at "mw"
        refine rd_I p0 ?_
        walk_at "mw"
        exact ⟨rfl, _, _, _, _, rfl⟩
    · rintro σ H' ⟨rfl, f, y1, y4, y5, rfl⟩
      walk_at "mw"
      exact q _ _ S2 e2
end
end Mw
/-! ### data -/
namespace Mw
open PySem PySem.Spec PyProof.Rows L2
section
variable {K : PySem.W.Frag} {H H' : Hp}
mutual
theorem dp_same (e : Same H H') : ∀ (d : PyData) (v : V), Dp K H v d → Dp K H' v d
  | .none, _, h => by
    cases h
    exact .non
  | .bool b, _, h => by
    cases h
    exact .bl b
  | .int i, _, h => by
    cases h
    exact .int i
  | .str x, _, h => by
    cases h
    exact .str x
  | .list ds, _, h => by
    cases h with
    | lst hs ha => exact .lst (e.seq hs) (dps_same e ds _ ha)
  | .tuple ds, _, h => by
    cases h with
    | tup hs ha => exact .tup (seqT e hs) (dps_same e ds _ ha)
  | .dict _, _, h => by cases h
theorem dps_same (e : Same H H') : ∀ (ds : List PyData) (vs : List V), DpAll K H vs ds → DpAll K H' vs ds
  | [], _, h => by
    cases h
    exact .nil
  | d :: ds, _, h => by
    cases h with
    | cons h1 h2 => exact .cons (dp_same e d _ h1) (dps_same e ds _ h2)
end
/-- data that == can be asked of -/
def Good (K : PySem.W.Frag) (H : Hp) (v : V) : Prop := ∃ d, Dp K H v d ∧ d.canLay0 = true ∧ d.depth ≤ 60
theorem Good.same {v : V} (g : Good K H v) (e : Same H H') : Good K H' v := by
  obtain ⟨d, h1, h2, h3⟩ := g
  exact ⟨d, dp_same e d v h1, h2, h3⟩
theorem good_all : ∀ {xs : List V}, (∀ x ∈ xs, Good K H x) → ∃ ds, DpAll K H xs ds ∧ PyData.canLayAll0 ds = true ∧ PyData.depthAll ds ≤ 60 ∧ ds.length = xs.length
  | [], _ => ⟨[], .nil, by simp [PyData.canLayAll0], by simp [PyData.depthAll], rfl⟩
  | x :: xs, h => by
    obtain ⟨d, h1, h2, h3⟩ := h x (List.mem_cons_self ..)
    obtain ⟨ds, k1, k2, k3, k4⟩ := good_all (xs := xs) fun y hy => h y (List.mem_cons_of_mem _ hy)
    refine ⟨d :: ds, .cons h1 k1, by simp [PyData.canLayAll0, h2, k2], ?_, by rw [List.length_cons, List.length_cons, k4]⟩
    simp only [PyData.depthAll]
    omega
theorem eqv_empty (ds : List PyData) : PyData.eqv (.list ds) (.list []) = ds.isEmpty := by
  cases ds with
  | nil => simp [PyData.eqv, PyData.eqvAll]
  | cons d ds => simp [PyData.eqv, PyData.eqvAll]
theorem shaped_nil : SeqAt.shaped (.list []) = true := by
  simp [SeqAt.shaped, PyData.canLay0, PyData.canLayAll0, PyData.depth, PyData.depthAll]
/-- xs != [], == [] where xs holds data -/
theorem ne_nil {Q : VK} {a b : Addr} {xs : List V} (ha : SqL K H a xs) (hb : SqL K H b []) (g : ∀ x ∈ xs, Good K H x) (q : Q (.bl (!xs.isEmpty)) H) : rNeD K (.ref a) (.ref b) H Q := by
  obtain ⟨ds, h1, h2, h3, h4⟩ := good_all g
  refine ⟨.list ds, .list [], .lst ha h1, .lst hb .nil, ?_, shaped_nil, ?_⟩
  · show ((PyData.list ds).canLay0 && decide ((PyData.list ds).depth ≤ 64)) = true
    rw [Bool.and_eq_true]
    refine ⟨by simp only [PyData.canLay0]; exact h2, decide_eq_true ?_⟩
    simp only [PyData.depth]
    omega
  · rw [eqv_empty, show ds.isEmpty = xs.isEmpty by cases ds <;> cases xs <;> first | rfl | (simp at h4)]
    exact q
theorem eq_nil {Q : VK} {a b : Addr} {xs : List V} (ha : SqL K H a xs) (hb : SqL K H b []) (g : ∀ x ∈ xs, Good K H x) (q : Q (.bl xs.isEmpty) H) : rEqD K (.ref a) (.ref b) H Q := by
  obtain ⟨ds, h1, h2, h3, h4⟩ := good_all g
  refine ⟨.list ds, .list [], .lst ha h1, .lst hb .nil, ?_, shaped_nil, ?_⟩
  · show ((PyData.list ds).canLay0 && decide ((PyData.list ds).depth ≤ 64)) = true
    rw [Bool.and_eq_true]
    refine ⟨by simp only [PyData.canLay0]; exact h2, decide_eq_true ?_⟩
    simp only [PyData.depth]
    omega
  · rw [eqv_empty, show ds.isEmpty = xs.isEmpty by cases ds <;> cases xs <;> first | rfl | (simp at h4)]
    exact q
theorem good_int (i : Int) : Good K H (.int i) := ⟨_, .int i, rfl, by simp [PyData.depth]⟩
theorem good_str {x : Str} (h : PyData.strOk x = true) : Good K H (.str x) := ⟨_, .str x, by simpa [PyData.canLay0] using h, by simp [PyData.depth]⟩
end
theorem hu64 {A : Around} {k : Nat} (hr : Room k A) : A.units + 64 < cLine := by
  have := hr.un
  omega
end Mw
/-! ### data with dicts, and how it is shown -/
namespace Mw
open PySem PySem.Spec PyProof.Rows L2
mutual
/-- data of any depth, dicts by ints and texts too -/
inductive Dd (K : PySem.W.Frag) (H : Hp) : V → PyData → Prop
  | non : Dd K H .non .none
  | bl (b : Bool) : Dd K H (.bl b) (.bool b)
  | int (i : Int) : Dd K H (.int i) (.int i)
  | str (x : Str) : Dd K H (.str x) (.str x)
  | lst {a : Addr} {xs : List V} {ds : List PyData} : H a = some (.lst xs) → DdAll K H xs ds → Dd K H (.ref a) (.list ds)
  | tup {a : Addr} {xs : List V} {ds : List PyData} : SqT K H a xs → DdAll K H xs ds → Dd K H (.ref a) (.tuple ds)
  | dic {a : Addr} {kvs : List (Key × V)} {ps : List (PyData × PyData)} : H a = some (.dK kvs) → DdAll K H (kvs.map fun p => kV p.1) (ps.map (·.1)) → DdAll K H (kvs.map (·.2)) (ps.map (·.2)) → Dd K H (.ref a) (.dict ps)
inductive DdAll (K : PySem.W.Frag) (H : Hp) : List V → List PyData → Prop
  | nil : DdAll K H [] []
  | cons {v : V} {vs : List V} {d : PyData} {ds : List PyData} : Dd K H v d → DdAll K H vs ds → DdAll K H (v :: vs) (d :: ds)
end
section
variable {K : PySem.W.Frag} {H H' : Hp}
mutual
theorem Dd.same (e : Same H H') : ∀ {v : V} {d : PyData}, Dd K H v d → Dd K H' v d
  | _, _, .non => .non
  | _, _, .bl b => .bl b
  | _, _, .int i => .int i
  | _, _, .str x => .str x
  | _, _, .lst h a => .lst (e _ _ h) (DdAll.same e a)
  | _, _, .tup h a => .tup (seqT e h) (DdAll.same e a)
  | _, _, .dic h a b => .dic (e _ _ h) (DdAll.same e a) (DdAll.same e b)
theorem DdAll.same (e : Same H H') : ∀ {vs : List V} {ds : List PyData}, DdAll K H vs ds → DdAll K H' vs ds
  | _, _, .nil => .nil
  | _, _, .cons h a => .cons (Dd.same e h) (DdAll.same e a)
end
theorem DdAll.len : ∀ {vs : List V} {ds : List PyData}, DdAll K H vs ds → vs.length = ds.length
  | _, _, .nil => rfl
  | _, _, .cons _ a => congrArg Nat.succ (DdAll.len a)
theorem DdAll.at : ∀ {vs : List V} {ds : List PyData} {i : Nat} {v : V}, DdAll K H vs ds → vs[i]? = some v → ∃ d, ds[i]? = some d ∧ Dd K H v d
  | _, _, _, _, .nil, h => by simp at h
  | _, _, 0, _, .cons a _, h => by
    cases h
    exact ⟨_, rfl, a⟩
  | _, _, i + 1, _, .cons _ t, h => DdAll.at (i := i) t h
theorem DdAll.app : ∀ {vs ws : List V} {ds es : List PyData}, DdAll K H vs ds → DdAll K H ws es → DdAll K H (vs ++ ws) (ds ++ es)
  | _, _, _, _, .nil, b => b
  | _, _, _, _, .cons h a, b => .cons h (DdAll.app a b)
theorem DdAll.drop : ∀ {vs : List V} {ds : List PyData} (k : Nat), DdAll K H vs ds → DdAll K H (vs.drop k) (ds.drop k)
  | _, _, 0, a => a
  | _, _, _ + 1, .nil => .nil
  | _, _, k + 1, .cons _ a => DdAll.drop k a
theorem DdAll.take : ∀ {vs : List V} {ds : List PyData} (k : Nat), DdAll K H vs ds → DdAll K H (vs.take k) (ds.take k)
  | _, _, 0, _ => .nil
  | _, _, _ + 1, .nil => .nil
  | _, _, k + 1, .cons h a => .cons h (DdAll.take k a)
/-- flat data is its value -/
def flatD : PyData → Bool
  | .none => true
  | .bool _ => true
  | .int _ => true
  | .str _ => true
  | _ => false
def valD : PyData → V
  | .none => .non
  | .bool b => .bl b
  | .int i => .int i
  | .str x => .str x
  | _ => .non
theorem Dd.flat {v : V} {d : PyData} (h : Dd K H v d) (f : flatD d = true) : v = valD d := by
  cases h <;> first | rfl | cases f
theorem DdAll.flat : ∀ {vs : List V} {ds : List PyData}, DdAll K H vs ds → ds.all flatD = true → vs = ds.map valD
  | _, _, .nil, _ => rfl
  | _, _, .cons h a, f => by
    rw [List.all_cons, Bool.and_eq_true] at f
    rw [List.map_cons, ← h.flat f.1, ← a.flat f.2]
theorem flat_val : ∀ {d : PyData}, flatD d = true → flatV (valD d) = true
  | .none, _ => rfl
  | .bool _, _ => rfl
  | .int _, _ => rfl
  | .str _, _ => rfl
theorem flats_val : ∀ {ds : List PyData}, ds.all flatD = true → (ds.map valD).all flatV = true
  | [], _ => rfl
  | d :: ds, f => by
    rw [List.all_cons, Bool.and_eq_true] at f
    rw [List.map_cons, List.all_cons, flat_val f.1, flats_val f.2] <;> rfl
theorem eqV_val {d e : PyData} (h : flatD d = true) (g : flatD e = true) : eqV (valD d) (valD e) = PyData.eqv d e := by
  cases d <;> cases e <;> first | (exact Bool.noConfusion h) | (exact Bool.noConfusion g) | (simp only [valD, eqV, PyData.eqv])
theorem inV_val {d : PyData} (g : flatD d = true) : ∀ {ds : List PyData}, ds.all flatD = true → inV (valD d) (ds.map valD) = ds.any fun e => PyData.eqv e d
  | [], _ => rfl
  | e :: ds, f => by
    rw [List.all_cons, Bool.and_eq_true] at f
    have ih := inV_val g f.2
    unfold inV at ih ⊢
    rw [List.map_cons, List.any_cons, List.any_cons, eqV_val f.1 g, ih]
/-- without dicts: what == reads -/
theorem canLayAll_cons {d : PyData} {ds : List PyData} (h : PyData.canLayAll0 (d :: ds) = true) : d.canLay0 = true ∧ PyData.canLayAll0 ds = true := by
  simpa [PyData.canLayAll0] using h
mutual
theorem Dd.dp : ∀ {v : V} {d : PyData}, Dd K H v d → d.canLay0 = true → Dp K H v d
  | _, _, .non, _ => .non
  | _, _, .bl b, _ => .bl b
  | _, _, .int i, _ => .int i
  | _, _, .str x, _ => .str x
  | _, _, .lst h a, c => .lst (.inl (.inl h)) (DdAll.dp a (by simpa [PyData.canLay0] using c))
  | _, _, .tup h a, c => .tup h (DdAll.dp a (by simpa [PyData.canLay0] using c))
  | _, _, .dic _ _ _, c => by simp [PyData.canLay0] at c
theorem DdAll.dp : ∀ {vs : List V} {ds : List PyData}, DdAll K H vs ds → PyData.canLayAll0 ds = true → DpAll K H vs ds
  | _, _, .nil, _ => .nil
  | _, _, .cons h a, c => .cons (Dd.dp h (canLayAll_cons c).1) (DdAll.dp a (canLayAll_cons c).2)
end
end
section
variable {X : Cx} {pins : List (Addr × Obj)} {σ : L2.St} {H : Hp} {s : Shared}
theorem keyIs_rel {P : Program} {w : World} {k : Key} {u : Value} (h : (mixKind P w).is k u = true) : RelV (kV k) u := by
  have h' : keyIs k u = true := h
  rcases keyIs_shape h' with ⟨i, t, rfl, rfl⟩ | ⟨x, t, rfl, rfl⟩
  · exact ⟨t, rfl⟩
  · exact ⟨t, rfl⟩
theorem pairs_rel {P : Program} {w : World} : ∀ {es : List DictEntry} {vs : List (Key × Value)} {kvs : List (Key × V)}, Pairs (mixKind P w) es vs → KV kvs vs →
    Vals (kvs.map fun p => kV p.1) (es.map (·.key)) ∧ Vals (kvs.map (·.2)) (es.map (·.val))
  | _, _, _, .nil, .nil => ⟨.nil, .nil⟩
  | _, _, _, .cons h1 h2 t, .cons ⟨e, r⟩ q => by
    obtain ⟨a, b⟩ := pairs_rel t q
    refine ⟨.cons ?_ a, .cons ?_ b⟩
    · show RelV (kV _) _
      rw [e]
      exact keyIs_rel h1
    · show RelV _ (DictEntry.val _)
      rw [h2]
      exact r
theorem sys_dict (I : Inv X pins σ H s) (hs : ∃ m, X.base.Ns sysModules m) : ∃ ob es ep, s.heap.get? sysModules = some ob ∧ ob.data = .dict es ep := by
  obtain ⟨m, ob, es, ep, q, d, _⟩ := hs
  exact ⟨ob, es, ep, I.bk _ _ q, d⟩
theorem not_sys (I : Inv X pins σ H s) (hs : ∃ m, X.base.Ns sysModules m) {a : Addr} {o : Obj} {vs : Array Value} {n : Nat} (h : s.heap.get? a = some o) (hd : o.data = .seq vs n) : a ≠ sysModules := by
  rintro rfl
  obtain ⟨ob, es, ep, q, d⟩ := sys_dict I hs
  rw [h] at q
  cases q
  rw [hd] at d
  cases d
mutual
theorem Dd.reads (I : Inv X pins σ H s) (hs : ∃ m, X.base.Ns sysModules m) : ∀ {v : V} {d : PyData} {u : Value}, Dd X.K H v d → RelV v u → ∃ as, Reads s.heap u d as ∧ sysModules ∉ as
  | _, _, _, .non, r => by
    cases r
    exact ⟨_, Reads.none, by simp⟩
  | _, _, _, .bl b, r => by
    cases r
    exact ⟨_, Reads.bool b, by simp⟩
  | _, _, _, .int i, r => by
    obtain ⟨t, rfl⟩ := r
    exact ⟨_, Reads.int i t, by simp⟩
  | _, _, _, .str x, r => by
    obtain ⟨t, rfl⟩ := r
    exact ⟨_, Reads.str x t, by simp⟩
  | _, _, _, .lst hl ha, r => by
    cases r
    obtain ⟨its, rv, ⟨o, n, ho, hc, _, hd⟩, _⟩ := I.list (.inl (.inl hl))
    obtain ⟨as, hr, no⟩ := DdAll.reads I hs ha rv
    refine ⟨_, Reads.list ho hc hd hr, ?_⟩
    rintro (_ | ⟨_, z⟩)
    · exact not_sys I hs ho hd rfl
    · exact no z
  | _, _, _, .tup hl ha, r => by
    cases r
    obtain ⟨its, rv, ⟨o, ho, hc, n, hd⟩, _⟩ := I.tuple hl
    obtain ⟨as, hr, no⟩ := DdAll.reads I hs ha rv
    exact ⟨_, Reads.tuple ho hc hd hr, no⟩
  | _, _, _, .dic hl h1 h2, r => by
    cases r
    obtain ⟨_, ns, vs, kv, o, es, ep, ho, hx, hd, _, hp, _⟩ := dk_of I.hok hl
    obtain ⟨r1, r2⟩ := pairs_rel hp kv
    obtain ⟨as, ha, n1⟩ := DdAll.reads I hs h1 r1
    obtain ⟨bs, hb, n2⟩ := DdAll.reads I hs h2 r2
    refine ⟨_, Reads.dict ho hx.1 hd ha hb, ?_⟩
    intro z
    rcases List.mem_append.mp z with z | z
    · rcases List.mem_cons.mp z with z | z
      · rw [← z] at ns
        cases ns
      · exact n1 z
    · exact n2 z
theorem DdAll.reads (I : Inv X pins σ H s) (hs : ∃ m, X.base.Ns sysModules m) : ∀ {vs : List V} {ds : List PyData} {us : List Value}, DdAll X.K H vs ds → Vals vs us → ∃ as, ReadsAll s.heap us ds as ∧ sysModules ∉ as
  | _, _, _, .nil, r => by
    cases r
    exact ⟨_, ReadsAll.nil, by simp⟩
  | _, _, _, .cons h t, r => by
    cases r with
    | cons r1 r2 =>
      obtain ⟨as, q1, n1⟩ := Dd.reads I hs h r1
      obtain ⟨bs, q2, n2⟩ := DdAll.reads I hs t r2
      refine ⟨_, ReadsAll.cons q1 q2, fun z => ?_⟩
      rcases List.mem_append.mp z with z | z
      · exact n1 z
      · exact n2 z
end
end
/-- what may be shown -/
def Fit (d : PyData) : Prop := d.showable = true ∧ d.depth ≤ 60 ∧ d.shown.length ≤ sizeLine
theorem call_repr {X : Cx} {k : Nat} (hr : Rm k X.A) (hs : ∃ m, X.base.Ns sysModules m) : CallR X (.builtin "repr") (fun xs H Q => ∃ v d, xs = [v] ∧ Dd X.K H v d ∧ Fit d ∧ Q (.str d.shown) H) := by
  intro pins s σ H xs us Q I r h
  obtain ⟨v, d, rfl, hd, ⟨f1, f2, f3⟩, q⟩ := h
  cases r with
  | cons rv rn =>
    cases rn
    have out : ∀ tk, EP X pins σ Q (.str d.shown tk) { s with toks := tk + 1 } := fun tk => ⟨.str d.shown, H, I.tok _, ⟨_, rfl⟩, q⟩
    have hu := hr.r.un
    cases hd with
    | non =>
      cases rv
      exact PySem.P.repr_of_none (out _)
    | bl b =>
      cases rv
      have z := out s.toks
      simp only [PyData.shown] at z
      exact PySem.P.repr_of_bool z
    | int i =>
      obtain ⟨t, rfl⟩ := rv
      have z := out s.toks
      simp only [PyData.shown] at z
      exact PySem.P.repr_of_int (of_decide_eq_true (by simpa only [PyData.showable] using f1)) z
    | str x =>
      obtain ⟨t, rfl⟩ := rv
      have z := out s.toks
      simp only [PyData.shown] at z f3
      exact PySem.P.repr_of_str z f3
    | lst hl ha =>
      obtain ⟨as, hR, no⟩ := Dd.reads I hs (.lst hl ha) rv
      cases rv
      refine repr_of_reads' hR f1 (fun _ => no) hr.g (by omega) (fun b o e => e) (fun h' u tk keep => ?_) f3
      exact ⟨.str _, H, I.kept keep, ⟨_, rfl⟩, q⟩
    | tup hl ha =>
      obtain ⟨as, hR, no⟩ := Dd.reads I hs (.tup hl ha) rv
      cases rv
      refine repr_of_reads' hR f1 (fun _ => no) hr.g (by omega) (fun b o e => e) (fun h' u tk keep => ?_) f3
      exact ⟨.str _, H, I.kept keep, ⟨_, rfl⟩, q⟩
    | dic hl h1 h2 =>
      obtain ⟨as, hR, no⟩ := Dd.reads I hs (.dic hl h1 h2) rv
      cases rv
      refine repr_of_reads' hR f1 (fun _ => no) hr.g (by omega) (fun b o e => e) (fun h' u tk keep => ?_) f3
      exact ⟨.str _, H, I.kept keep, ⟨_, rfl⟩, q⟩
end Mw
/-! ### what an expression yields, as data -/
namespace Mw
open PySem PySem.Spec PyProof.Rows L2
/-- the most numbers that are ever mixed -/
abbrev most : Nat := 1000000000
/-- the world without draws -/
def wq : Wo := ⟨fun H => H, fun _ _ => True, fun H => Same.refl H, fun _ _ => trivial, fun _ np e => by subst e; exact ⟨trivial, same_upd np, upd_same, np⟩, fun _ _ e => by
  subst e
  exact ⟨trivial, upd_same, fun a u na h => by rw [upd_ne na]; exact h⟩⟩
/-- one object out of sight -/
def hideV (D : Addr) (H : Hp) : Hp := fun a => if a = D then none else H a
theorem hide_le (D : Addr) (H : Hp) : Same (hideV D H) H := fun a o h => by
  unfold hideV at h
  split at h
  · cases h
  · exact h
theorem hide_at {D : Addr} {H : Hp} {a : Addr} {o : HO} (h : H a = some o) (n : a ≠ D) : hideV D H a = some o := by
  unfold hideV
  rw [if_neg n]
  exact h
theorem hide_of {D : Addr} {H : Hp} {a : Addr} {o : HO} (h : hideV D H a = some o) : a ≠ D ∧ H a = some o := by
  unfold hideV at h
  split at h
  · cases h
  · rename_i n
    exact ⟨n, h⟩
theorem hide_same {D : Addr} {H H' : Hp} (e : Same H H') : Same (hideV D H) (hideV D H') := fun a o h =>
  hide_at (e a o (hide_of h).2) (hide_of h).1
/-- the same world, D (which holds o) out of sight -/
def Wo.hide (U : Wo) (D : Addr) (o : HO) : Wo where
  view := fun H => hideV D (U.view H)
  ok := fun n H => U.ok n H ∧ U.view H D = some o
  le := fun H => (hide_le D _).trans (U.le H)
  mono := fun h l => ⟨U.mono h.1 l, h.2⟩
  new := by
    intro n H H1 p o' h np e
    obtain ⟨x, y, z, w⟩ := U.new h.1 np e
    have pD : p ≠ D := fun q => by
      rw [q, U.le _ _ _ h.2] at np
      cases np
    refine ⟨⟨x, y _ _ h.2⟩, hide_same y, hide_at z pD, ?_⟩
    unfold hideV
    rw [if_neg pD]
    exact w
  own := by
    intro n H H1 p o1 o2 h hp e
    obtain ⟨pD, hp⟩ := hide_of hp
    obtain ⟨x, y, z⟩ := U.own h.1 hp e
    exact ⟨⟨x, z _ _ pD.symm h.2⟩, hide_at y pD, fun a u n q => hide_at (z a u n (hide_of q).2) (hide_of q).1⟩
structure At (U : Wo) (n : Nat) (M H : Hp) : Prop where
  ok : U.ok n H
  up : Same M (U.view H)
theorem thousand {n : Nat} (h : n ≤ 100000) : n ≤ sizeLine := Nat.le_trans h (by decide)
section
variable {K : PySem.W.Frag} {U : Wo} {M : Hp} {σ : L2.St} {n c c1 c2 : Nat} {te ta tb : TE} {t : TA} {tt tu : TT}
theorem At.step {H H' : Hp} (a : At U n M H) (ok : U.ok n H') (s : Same (U.view H) (U.view H')) : At U n M H' := ⟨ok, a.up.trans s⟩
theorem At.here {H : Hp} (ok : U.ok n H) : At U n (U.view H) H := ⟨ok, Same.refl _⟩
/-- te yields the data d -/
def E1 (K : PySem.W.Frag) (U : Wo) (M : Hp) (te : TE) (σ : L2.St) (d : PyData) : Prop := ∀ n H, At U n M H → ∀ Q : VK, (∀ v H', U.ok n H' → Same (U.view H) (U.view H') → Dd K (U.view H') v d → Q v H') → te σ H Q
def A1 (K : PySem.W.Frag) (U : Wo) (M : Hp) (t : TA) (σ : L2.St) (ds : List PyData) : Prop := ∀ n H, At U n M H → ∀ Q : List V → Hp → Prop, (∀ vs H', U.ok n H' → Same (U.view H) (U.view H') → DdAll K (U.view H') vs ds → Q vs H') → t σ H Q
def T1 (U : Wo) (M : Hp) (tt : TT) (σ : L2.St) (b : Bool) : Prop := ∀ n H, At U n M H → ∀ Q : Bool → Hp → Prop, (∀ H', U.ok n H' → Same (U.view H) (U.view H') → Q b H') → tt σ H Q
theorem E1.mono {M' : Hp} {d : PyData} (h : E1 K U M te σ d) (e : Same M M') : E1 K U M' te σ d := fun n H a => h n H ⟨a.ok, e.trans a.up⟩
theorem E1.is {d e : PyData} (h : E1 K U M te σ d) (z : d = e) : E1 K U M te σ e := z ▸ h
theorem T1.is {b b' : Bool} (h : T1 U M tt σ b) (z : b = b') : T1 U M tt σ b' := z ▸ h
theorem e1_var {i : Nat} {v : V} {d : PyData} (h : σ[i]? = some (some v)) (hd : Dd K M v d) : E1 K U M (tVar i) σ d := fun n H a Q q => ⟨v, h, q v H a.ok (Same.refl _) (hd.same a.up)⟩
theorem e1_int {i : Int} : E1 K U M (tC (.int i)) σ (.int i) := fun n H a Q q => q _ H a.ok (Same.refl _) (.int i)
theorem e1_str {x : Str} : E1 K U M (tC (.str x)) σ (.str x) := fun n H a Q q => q _ H a.ok (Same.refl _) (.str x)
theorem e1_bl {b : Bool} : E1 K U M (tC (.bl b)) σ (.bool b) := fun n H a Q q => q _ H a.ok (Same.refl _) (.bl b)
theorem e1_non : E1 K U M (tC .non) σ .none := fun n H a Q q => q _ H a.ok (Same.refl _) .non
/-- a tuple that the module wrote -/
theorem e1_kt {a : Addr} {d : PyData} (h : ∀ H, Dd K H (.ref a) d) : E1 K U M (tC (.ref a)) σ d := fun n H at_ Q q => q _ H at_.ok (Same.refl _) (h _)
theorem a1_nil : A1 K U M tNil σ [] := fun n H a Q q => q _ H a.ok (Same.refl _) .nil
theorem a1_cons {d : PyData} {ds : List PyData} (h : E1 K U M te σ d) (hs : A1 K U M t σ ds) : A1 K U M (tCons te t) σ (d :: ds) := fun n H a Q q =>
  h n H a _ fun v H1 ok1 s1 d1 => hs n H1 (a.step ok1 s1) _ fun vs H2 ok2 s2 d2 => q _ H2 ok2 (s1.trans s2) (.cons (d1.same s2) d2)
theorem e1_tup {ds : List PyData} (h : A1 K U M t σ ds) (z : ds.length ≤ 100000) : E1 K U M (tTup t) σ (.tuple ds) := fun n H a Q q =>
  h n H a _ fun vs H1 ok1 s1 d1 => ⟨thousand (d1.len ▸ z), fun p np => by
    obtain ⟨ok2, s2, f2, _⟩ := U.new (o := .tup vs) ok1 np rfl
    exact q _ _ ok2 (s1.trans s2) (.tup (.inl (.inl f2)) (d1.same s2))⟩
theorem e1_lst {ds : List PyData} (h : A1 K U M t σ ds) (z : ds.length ≤ 100000) : E1 K U M (tLst t) σ (.list ds) := fun n H a Q q =>
  h n H a _ fun vs H1 ok1 s1 d1 => ⟨thousand (d1.len ▸ z), fun p np => by
    obtain ⟨ok2, s2, f2, _⟩ := U.new (o := .lst vs) ok1 np rfl
    exact q _ _ ok2 (s1.trans s2) (.lst f2 (d1.same s2))⟩
/-- an operator's rule on data -/
def R1 (K : PySem.W.Frag) (U : Wo) (r : R2) (d1 d2 d : PyData) : Prop := ∀ n H x y, U.ok n H → Dd K (U.view H) x d1 → Dd K (U.view H) y d2 → ∀ Q : VK, (∀ v H', U.ok n H' → Same (U.view H) (U.view H') → Dd K (U.view H') v d → Q v H') → r x y H Q
theorem e1_op {r : R2} {d1 d2 d : PyData} (ha : E1 K U M ta σ d1) (hb : E1 K U M tb σ d2) (hr : R1 K U r d1 d2 d) : E1 K U M (tOp r ta tb) σ d := fun n H a Q q =>
  ha n H a _ fun x H1 ok1 s1 e1 => hb n H1 (a.step ok1 s1) _ fun y H2 ok2 s2 e2 => hr n H2 x y ok2 (e1.same s2) e2 Q fun v H3 ok3 s3 e3 => q v H3 ok3 ((s1.trans s2).trans s3) e3
theorem r1_int {f : Int → Int → Int} {a b : Int} : R1 K U (rI0 fun i j => .int (f i j)) (.int a) (.int b) (.int (f a b)) := fun n H x y ok h1 h2 Q q => by
  cases h1
  cases h2
  exact ⟨a, b, rfl, rfl, q _ H ok (Same.refl _) (.int _)⟩
theorem r1_cmp {f : Int → Int → Bool} {a b : Int} : R1 K U (rI0 fun i j => .bl (f i j)) (.int a) (.int b) (.bool (f a b)) := fun n H x y ok h1 h2 Q q => by
  cases h1
  cases h2
  exact ⟨a, b, rfl, rfl, q _ H ok (Same.refl _) (.bl _)⟩
theorem r1_I {C : Int → Int → Prop} {f : Int → Int → Int} {a b : Int} (hc : C a b) : R1 K U (rI C fun i j => .int (f i j)) (.int a) (.int b) (.int (f a b)) := fun n H x y ok h1 h2 Q q => by
  cases h1
  cases h2
  exact ⟨a, b, rfl, rfl, hc, q _ H ok (Same.refl _) (.int _)⟩
theorem r1_cat {xs ys : List PyData} (z : xs.length + ys.length ≤ 100000) : R1 K U rCat (.list xs) (.list ys) (.list (xs ++ ys)) := fun n H x y ok h1 h2 Q q => by
  cases h1 with
  | lst f1 a1 =>
    cases h2 with
    | lst f2 a2 =>
      refine ⟨_, _, _, _, rfl, rfl, U.le _ _ _ f1, U.le _ _ _ f2, thousand (by rw [a1.len, a2.len]; exact z), fun p np => ?_⟩
      obtain ⟨ok2, s2, f2, _⟩ := U.new (o := .lst _) ok np rfl
      exact q _ _ ok2 s2 (.lst f2 ((a1.app a2).same s2))
theorem r1_eqI {a b : Int} : R1 K U rEq (.int a) (.int b) (.bool (decide (a = b))) := fun n H x y ok h1 h2 Q q => by
  cases h1
  cases h2
  refine ⟨rfl, ?_⟩
  rw [show decide (V.int a = V.int b) = decide (a = b) from decide_eq_decide.mpr ⟨V.int.inj, fun e => e ▸ rfl⟩]
  exact q _ H ok (Same.refl _) (.bl _)
theorem r1_neI {a b : Int} : R1 K U rNe (.int a) (.int b) (.bool (!decide (a = b))) := fun n H x y ok h1 h2 Q q => by
  cases h1
  cases h2
  refine ⟨rfl, ?_⟩
  rw [show decide (V.int a = V.int b) = decide (a = b) from decide_eq_decide.mpr ⟨V.int.inj, fun e => e ▸ rfl⟩]
  exact q _ H ok (Same.refl _) (.bl _)
theorem r1_eqS {a b : Str} : R1 K U rEq (.str a) (.str b) (.bool (decide (a = b))) := fun n H x y ok h1 h2 Q q => by
  cases h1
  cases h2
  refine ⟨rfl, ?_⟩
  rw [show decide (V.str a = V.str b) = decide (a = b) from decide_eq_decide.mpr ⟨V.str.inj, fun e => e ▸ rfl⟩]
  exact q _ H ok (Same.refl _) (.bl _)
theorem r1_neS {a b : Str} : R1 K U rNe (.str a) (.str b) (.bool (!decide (a = b))) := fun n H x y ok h1 h2 Q q => by
  cases h1
  cases h2
  refine ⟨rfl, ?_⟩
  rw [show decide (V.str a = V.str b) = decide (a = b) from decide_eq_decide.mpr ⟨V.str.inj, fun e => e ▸ rfl⟩]
  exact q _ H ok (Same.refl _) (.bl _)
/-- x in (a, b, ..), not in: flat data -/
theorem r1_inT {neg : Bool} {d : PyData} {ds : List PyData} (f : flatD d = true) (g : ds.all flatD = true) : R1 K U (rIn K neg) d (.tuple ds) (.bool (if neg then !ds.any fun e => PyData.eqv e d else ds.any fun e => PyData.eqv e d)) := fun n H x y ok h1 h2 Q q => by
  have e1 := h1.flat f
  subst e1
  cases h2 with
  | tup hq ha =>
    have e2 := ha.flat g
    subst e2
    refine ⟨_, _, rfl, .inr (seqT (U.le _) hq), flat_val f, flats_val g, ?_⟩
    rw [inV_val f g]
    cases neg <;> exact q _ H ok (Same.refl _) (.bl _)
theorem r1_inL {neg : Bool} {d : PyData} {ds : List PyData} (f : flatD d = true) (g : ds.all flatD = true) : R1 K U (rIn K neg) d (.list ds) (.bool (if neg then !ds.any fun e => PyData.eqv e d else ds.any fun e => PyData.eqv e d)) := fun n H x y ok h1 h2 Q q => by
  have e1 := h1.flat f
  subst e1
  cases h2 with
  | lst hq ha =>
    have e2 := ha.flat g
    subst e2
    refine ⟨_, _, rfl, .inl (.inl (.inl (U.le _ _ _ hq))), flat_val f, flats_val g, ?_⟩
    rw [inV_val f g]
    cases neg <;> exact q _ H ok (Same.refl _) (.bl _)
theorem r1_eqD {d e : PyData} (s1 : SeqAt.shaped d = true) (s2 : SeqAt.shaped e = true) : R1 K U (rEqD K) d e (.bool (PyData.eqv d e)) := fun n H x y ok h1 h2 Q q =>
  ⟨d, e, (h1.same (U.le _)).dp (SeqAt.canLay_of_shaped s1), (h2.same (U.le _)).dp (SeqAt.canLay_of_shaped s2), s1, s2, q _ H ok (Same.refl _) (.bl _)⟩
theorem r1_neD {d e : PyData} (s1 : SeqAt.shaped d = true) (s2 : SeqAt.shaped e = true) : R1 K U (rNeD K) d e (.bool (!PyData.eqv d e)) := fun n H x y ok h1 h2 Q q =>
  ⟨d, e, (h1.same (U.le _)).dp (SeqAt.canLay_of_shaped s1), (h2.same (U.le _)).dp (SeqAt.canLay_of_shaped s2), s1, s2, q _ H ok (Same.refl _) (.bl _)⟩
theorem e1_neg {i : Int} (h : E1 K U M ta σ (.int i)) : E1 K U M (tUn (rU fun i => .int (-i)) ta) σ (.int (-i)) := fun n H a Q q => h n H a _ fun v H1 ok1 s1 d1 => by
  cases d1
  exact ⟨i, rfl, q _ H1 ok1 s1 (.int _)⟩
/-! tests -/
theorem t1_val {b : Bool} (h : E1 K U M te σ (.bool b)) : T1 U M (tB te) σ b := fun n H a Q q => h n H a _ fun v H1 ok1 s1 d1 => by
  cases d1
  exact ⟨b, rfl, q H1 ok1 s1⟩
theorem t1_test {b : Bool} (h : E1 K U M te σ (.bool b)) : T1 U M (tTest te) σ b := fun n H a Q q => h n H a _ fun v H1 ok1 s1 d1 => by
  cases d1
  exact ⟨b, rfl, q H1 ok1 s1⟩
theorem t1_not {b : Bool} (h : T1 U M tt σ b) : T1 U M (tNot tt) σ (!b) := fun n H a Q q => h n H a _ fun H1 ok1 s1 => q H1 ok1 s1
theorem t1_yes : T1 U M tYes σ true := fun n H a Q q => q H a.ok (Same.refl _)
theorem t1_and {a b : Bool} (h1 : T1 U M tt σ a) (h2 : a = true → T1 U M tu σ b) : T1 U M (tAnd tt tu) σ (a && b) := fun n H at_ Q q => h1 n H at_ _ fun H1 ok1 s1 => by
  cases a with
  | true => exact iteT (h2 rfl n H1 (at_.step ok1 s1) Q fun H2 ok2 s2 => q H2 ok2 (s1.trans s2))
  | false => exact iteF (q H1 ok1 s1)
theorem t1_or {a b : Bool} (h1 : T1 U M tt σ a) (h2 : a = false → T1 U M tu σ b) : T1 U M (tOr tt tu) σ (a || b) := fun n H at_ Q q => h1 n H at_ _ fun H1 ok1 s1 => by
  cases a with
  | true => exact iteT (q H1 ok1 s1)
  | false => exact iteF (h2 rfl n H1 (at_.step ok1 s1) Q fun H2 ok2 s2 => q H2 ok2 (s1.trans s2))
theorem e1_and {a b : Bool} (h1 : E1 K U M ta σ (.bool a)) (h2 : a = true → E1 K U M tb σ (.bool b)) : E1 K U M (tAndV ta tb) σ (.bool (a && b)) := fun n H at_ Q q => h1 n H at_ _ fun v H1 ok1 s1 d1 => by
  cases d1
  refine ⟨a, rfl, ?_⟩
  cases a with
  | true => exact iteT (h2 rfl n H1 (at_.step ok1 s1) Q fun v H2 ok2 s2 d2 => q v H2 ok2 (s1.trans s2) d2)
  | false => exact iteF (q _ H1 ok1 s1 (.bl _))
theorem e1_or {a b : Bool} (h1 : E1 K U M ta σ (.bool a)) (h2 : a = false → E1 K U M tb σ (.bool b)) : E1 K U M (tOrV ta tb) σ (.bool (a || b)) := fun n H at_ Q q => h1 n H at_ _ fun v H1 ok1 s1 d1 => by
  cases d1
  refine ⟨a, rfl, ?_⟩
  cases a with
  | true => exact iteT (q _ H1 ok1 s1 (.bl _))
  | false => exact iteF (h2 rfl n H1 (at_.step ok1 s1) Q fun v H2 ok2 s2 d2 => q v H2 ok2 (s1.trans s2) d2)
theorem e1_not {a : Bool} (h : E1 K U M ta σ (.bool a)) : E1 K U M (tNotV ta) σ (.bool (!a)) := fun n H at_ Q q => h n H at_ _ fun v H1 ok1 s1 d1 => by
  cases d1
  exact ⟨a, rfl, q _ H1 ok1 s1 (.bl _)⟩
theorem e1_if {b : Bool} {d : PyData} (h : T1 U M tt σ b) (h1 : b = true → E1 K U M ta σ d) (h2 : b = false → E1 K U M tb σ d) : E1 K U M (tIf tt ta tb) σ d := fun n H at_ Q q => h n H at_ _ fun H1 ok1 s1 => by
  cases b with
  | true => exact iteT (h1 rfl n H1 (at_.step ok1 s1) Q fun v H2 ok2 s2 d2 => q v H2 ok2 (s1.trans s2) d2)
  | false => exact iteF (h2 rfl n H1 (at_.step ok1 s1) Q fun v H2 ok2 s2 d2 => q v H2 ok2 (s1.trans s2) d2)
/-- a <= b <= c -/
theorem t1_chain {r r' : R2} {tc : TE} {d1 d2 d3 : PyData} {a b : Bool} (ha : E1 K U M ta σ d1) (hb : E1 K U M tb σ d2) (hr : R1 K U r d1 d2 (.bool a)) (hc : a = true → E1 K U M tc σ d3) (hr' : a = true → R1 K U r' d2 d3 (.bool b)) :
    T1 U M (tTest (tChain r r' ta tb tc)) σ (a && b) := fun n H at_ Q q => ha n H at_ _ fun x H1 ok1 s1 e1 => hb n H1 (at_.step ok1 s1) _ fun y H2 ok2 s2 e2 => hr n H2 x y ok2 (e1.same s2) e2 _ fun v H3 ok3 s3 e3 => by
  cases e3
  refine ⟨a, rfl, ?_⟩
  have st := (s1.trans s2).trans s3
  cases a with
  | true =>
    refine iteT (hc rfl n H3 (at_.step ok3 st) _ fun w H4 ok4 s4 e4 => hr' rfl n H4 y w ok4 (e2.same (s3.trans s4)) e4 _ fun u H5 ok5 s5 e5 => ?_)
    cases e5
    exact ⟨b, rfl, q H5 ok5 ((st.trans s4).trans s5)⟩
  | false => exact iteF ⟨false, rfl, q H3 ok3 st⟩
/-! built-ins -/
def tyD : PyData → String
  | .none => "NoneType"
  | .bool _ => "bool"
  | .int _ => "int"
  | .str _ => "str"
  | .list _ => "list"
  | .tuple _ => "tuple"
  | .dict _ => "dict"
theorem Dd.ty {H : Hp} {v : V} {d : PyData} (h : Dd K H v d) : TyX K H v (.type (tyD d)) := by
  cases h with
  | non => exact .base .non
  | bl b => exact .base (.bl b)
  | int i => exact .base (.int i)
  | str x => exact .base (.str x)
  | lst h _ => exact .base (.lst h)
  | tup h _ =>
    rcases h with (h | ⟨o, h⟩) | ⟨o, its, m, h, hc, _⟩
    · exact .base (.tup h)
    · exact .fTuple h
    · exact .kTuple h hc
  | dic h _ _ => exact .base (.dK h)
theorem e1_isi {T : String} {d : PyData} {b : Bool} (h : E1 K U M te σ d) (hb : kitB (tyD d) T = some b) : E1 K U M (tCB (rIsi K) (tCons te (tCons (tC (.ty T)) tNil))) σ (.bool b) := fun n H a Q q => h n H a _ fun v H1 ok1 s1 d1 =>
  ⟨v, .ty T, _, _, b, rfl, .ty T, (d1.same (U.le _)).ty, kit_ty hb, q _ H1 ok1 s1 (.bl b)⟩
def isiAny (d : PyData) : List String → Option Bool
  | [] => some false
  | T :: r => match kitB (tyD d) T with
    | some true => some true
    | some false => isiAny d r
    | none => none
theorem kit_any {d : PyData} : ∀ {Ts : List String} {b : Bool}, isiAny d Ts = some b → PySem.W.kitAny K (.type (tyD d)) (Ts.map Value.type) = some b
  | [], b, h => h
  | T :: r, b, h => by
    unfold isiAny at h
    cases e : kitB (tyD d) T with
    | none =>
      rw [e] at h
      cases h
    | some x =>
      rw [e] at h
      refine kitAny_cons (kit_ty e) (fun z => ?_) (fun z => ?_)
      · subst z
        exact kit_any h
      · subst z
        exact (Option.some.inj h).symm
theorem e1_isi2 {A B : String} {d : PyData} {b : Bool} (h : E1 K U M te σ d) (hb : isiAny d [A, B] = some b) : E1 K U M (tCB (rIsiT K) (tCons te (tCons (tTup (tCons (tC (.ty A)) (tCons (tC (.ty B)) tNil))) tNil))) σ (.bool b) := fun n H a Q q => h n H a _ fun v H1 ok1 s1 d1 =>
  ⟨(show 2 ≤ sizeLine by decide), fun p np => by
    obtain ⟨ok2, s2, f2, _⟩ := U.new (o := .tup [.ty A, .ty B]) ok1 np rfl
    exact ⟨v, p, [.ty A, .ty B], _, [.type A, .type B], b, rfl, upd_same, .cons (.ty A) (.cons (.ty B) .nil), ((d1.same s2).same (U.le _)).ty, kit_any (Ts := [A, B]) hb, q _ _ ok2 (s1.trans s2) (.bl b)⟩⟩
def lenD : PyData → Option Nat
  | .str x => some x.length
  | .list xs => some xs.length
  | .tuple xs => some xs.length
  | _ => none
theorem e1_len {d : PyData} {m : Nat} (h : E1 K U M te σ d) (hm : lenD d = some m) (z : m ≤ 100000) : E1 K U M (tCB (fun xs H Q => ∃ x n, xs = [x] ∧ LenV K x H n ∧ Q (.int n) H) (tCons te tNil)) σ (.int m) := fun n H a Q q => h n H a _ fun v H1 ok1 s1 d1 => by
  refine ⟨v, m, rfl, ?_, q _ H1 ok1 s1 (.int _)⟩
  cases d1 with
  | str x =>
    cases hm
    exact ⟨thousand z, rfl⟩
  | lst hq ha =>
    cases hm
    exact .inl ⟨_, .inl (.inl (U.le _ _ _ hq)), ha.len.symm⟩
  | tup hq ha =>
    cases hm
    exact .inr ⟨_, seqT (U.le _) hq, ha.len.symm⟩
  | non => cases hm
  | bl b => cases hm
  | int i => cases hm
  | dic _ _ _ => cases hm
theorem bools {H : Hp} : ∀ {bs : List Bool} {vs : List V}, DdAll K H vs (bs.map .bool) → vs = bs.map V.bl
  | [], _, .nil => rfl
  | b :: bs, _, .cons h a => by
    cases h
    rw [List.map_cons, ← bools a]
theorem e1_all {bs : List Bool} (h : E1 K U M te σ (.list (bs.map .bool))) : E1 K U M (tCB (rAll K) (tCons te tNil)) σ (.bool (bs.all id)) := fun n H a Q q => h n H a _ fun v H1 ok1 s1 d1 => by
  cases d1 with
  | lst hq ha =>
    have e := bools ha
    subst e
    exact ⟨_, bs, rfl, .inl (.inl (U.le _ _ _ hq)), q _ H1 ok1 s1 (.bl _)⟩
theorem e1_tuple {d : PyData} {ds : List PyData} (h : E1 K U M te σ d) (hd : d = .list ds ∨ d = .tuple ds) : E1 K U M (tCB (fun xs H Q => ∃ p ys, xs = [.ref p] ∧ ((SqL K H p ys ∧ ∀ l, H l = none → Q (.ref l) (upd H l (.tup ys))) ∨ (SqT K H p ys ∧ Q (.ref p) H))) (tCons te tNil)) σ (.tuple ds) := fun n H a Q q => h n H a _ fun v H1 ok1 s1 d1 => by
  rcases hd with rfl | rfl
  · cases d1 with
    | lst hq ha =>
      refine ⟨_, _, rfl, .inl ⟨.inl (.inl (U.le _ _ _ hq)), fun l nl => ?_⟩⟩
      obtain ⟨ok2, s2, f2, _⟩ := U.new (o := .tup _) ok1 nl rfl
      exact q _ _ ok2 (s1.trans s2) (.tup (.inl (.inl f2)) (ha.same s2))
  · cases d1 with
    | tup hq ha => exact ⟨_, _, rfl, .inr ⟨seqT (U.le _) hq, q _ H1 ok1 s1 (.tup hq ha)⟩⟩
/-! what is walked -/
def I1 (K : PySem.W.Frag) (U : Wo) (M : Hp) (wi : TI) (σ : L2.St) (ds : List PyData) : Prop := ∀ n H, At U n M H → ∀ R : It → Hp → Prop, (∀ J H', U.ok n H' → Same (U.view H) (U.view H') →
  Walk J ds.length (fun H2 => Same (U.view H') (U.view H2)) (fun i H2 v H3 => H3 = H2 ∧ ∃ d, ds[i]? = some d ∧ Dd K (U.view H') v d) → R J H') → wi σ H R
theorem i1_list {ds : List PyData} (h : E1 K U M te σ (.list ds)) : I1 K U M (iList K te) σ ds := fun n H a R r => h n H a _ fun v H1 ok1 s1 d1 => by
  cases d1 with
  | lst hq ha =>
    have hs : SqL K H1 _ _ := .inl (.inl (U.le _ _ _ hq))
    refine ⟨_, rfl, ⟨_, hs⟩, r _ H1 ok1 s1 ?_⟩
    rw [← ha.len]
    refine walk_list.mono (fun H2 z => .inl (.inl (U.le _ _ _ (z _ _ hq)))) (fun i H2 x H3 hi z y => ⟨y.1, ?_⟩)
    exact ha.at y.2
theorem i1_tup {ds : List PyData} (h : E1 K U M te σ (.tuple ds)) : I1 K U M (iTup K te) σ ds := fun n H a R r => h n H a _ fun v H1 ok1 s1 d1 => by
  cases d1 with
  | tup hq ha =>
    refine ⟨_, rfl, ⟨_, seqT (U.le _) hq⟩, r _ H1 ok1 s1 ?_⟩
    rw [← ha.len]
    refine walk_tup.mono (fun H2 z => seqT (U.le _) (seqT z hq)) (fun i H2 x H3 hi z y => ⟨y.1, ?_⟩)
    exact ha.at y.2
/-- the signs of a text -/
def signs (x : Str) : List PyData := x.cps.toList.map fun c => .str ⟨#[c]⟩
theorem i1_str {x : Str} (h : E1 K U M te σ (.str x)) : I1 K U M (iStr te) σ (signs x) := fun n H a R r => h n H a _ fun v H1 ok1 s1 d1 => by
  cases d1
  refine ⟨x, rfl, r _ H1 ok1 s1 ?_⟩
  have e : (signs x).length = x.cps.size := by
    unfold signs
    rw [List.length_map, Array.length_toList]
  rw [e]
  refine walk_str.mono (fun H2 z => trivial) (fun i H2 v H3 hi z y => ⟨y.1, ?_⟩)
  obtain ⟨c, hc, rfl⟩ := y.2
  refine ⟨.str ⟨#[c]⟩, ?_, .str _⟩
  unfold signs
  rw [List.getElem?_map, Array.getElem?_toList, hc] <;> rfl
theorem filter_snoc {α β : Type} {p : α → Bool} {f : α → β} {l : List α} {i : Nat} {d : α} (h : l[i]? = some d) : ((l.take (i + 1)).filter p).map f = ((l.take i).filter p).map f ++ (if p d = true then [f d] else []) := by
  rw [List.take_add_one, h]
  show (((l.take i) ++ [d]).filter p).map f = _
  rw [List.filter_append, List.map_append, List.filter_cons]
  split <;> rfl
/-- [e for x in xs if t] -/
theorem e1_lc {wi : TI} {j : Nat} {vs : List Nat} {ds : List PyData} {p : PyData → Bool} {f : PyData → PyData} (h : I1 K U M wi σ ds) (z : ds.length ≤ 100000) (hw : ∀ x, wipe ((wipe σ vs).set j (some x)) vs = wipe σ vs)
    (ht : ∀ (U' : Wo) M' v d, Same M M' → d ∈ ds → Dd K M' v d → T1 U' M' tt ((wipe σ vs).set j (some v)) (p d)) (he : ∀ (U' : Wo) M' v d, Same M M' → d ∈ ds → p d = true → Dd K M' v d → E1 K U' M' te ((wipe σ vs).set j (some v)) (f d)) :
    E1 K U M (tLc wi (gName j) tt te vs) σ (.list ((ds.filter p).map f)) := fun n H a Q q => h n H a _ fun J H1 ok1 s1 w => by
  intro D nD
  have a1 : At U n M H1 := a.step ok1 s1
  have nD0 : U.view H1 D = none := by
    cases e : U.view H1 D with
    | none => rfl
    | some o =>
      rw [U.le _ _ _ e] at nD
      cases nD
  have off : Same (U.view H1) (hideV D (U.view H1)) := fun b o e => hide_at e (fun q => by
    rw [q, nD0] at e
    cases e)
  refine lc_it w (fun i H' => U.ok n H' ∧ Same (U.view H1) (hideV D (U.view H')) ∧ ∃ acc, U.view H' D = some (.lst acc) ∧ DdAll K (hideV D (U.view H')) acc (((ds.take i).filter p).map f)) ?_ (fun i H' _ z => z.2.1.trans (hide_le _ _)) ?_ ?_
  · obtain ⟨ok2, s2, f2, _⟩ := U.new (o := .lst []) ok1 nD rfl
    exact ⟨ok2, off.trans (hide_same s2), [], f2, .nil⟩
  · rintro i x H2 H3 hi ⟨ok2, s2, acc, f2, da⟩ ⟨rfl, d, hd, dx⟩
    have hm : d ∈ ds := List.mem_of_getElem? hd
    refine ⟨hw x, ht (U.hide D (.lst acc)) (U.view H1) x d (a1.up) hm dx n _ ⟨⟨ok2, f2⟩, s2⟩ _ fun H4 ok4 s4 => ?_⟩
    have st : ((ds.take (i + 1)).filter p).map f = ((ds.take i).filter p).map f ++ (if p d = true then [f d] else []) := filter_snoc hd
    cases hp : p d with
    | false =>
      refine iteF ⟨ok4.1, s2.trans s4, acc, ok4.2, ?_⟩
      rw [st, hp, if_neg Bool.false_ne_true, List.append_nil]
      exact da.same s4
    | true =>
      refine iteT (he (U.hide D (.lst acc)) (U.view H1) x d (a1.up) hm hp dx n H4 ⟨ok4, s2.trans s4⟩ _ fun y H5 ok5 s5 dy => ?_)
      have hl : acc.length ≤ 100000 := by
        rw [da.len, List.length_map]
        refine Nat.le_trans (List.length_filter_le _ _) (Nat.le_trans ?_ z)
        rw [List.length_take]
        exact Nat.min_le_right _ _
      refine ⟨acc, U.le _ _ _ ok5.2, Nat.lt_of_le_of_lt hl (by decide), ?_⟩
      obtain ⟨ok6, f6, o6⟩ := U.own (o := .lst (acc ++ [y])) ok5.1 ok5.2 rfl
      have k6 : Same (hideV D (U.view H5)) (hideV D (U.view (upd H5 D (.lst (acc ++ [y]))))) := fun b u e => hide_at (o6 b u (hide_of e).1 (hide_of e).2) (hide_of e).1
      refine ⟨ok6, ((s2.trans s4).trans s5).trans k6, _, f6, ?_⟩
      rw [st, hp, if_pos rfl]
      exact ((da.same s4).same (s5.trans k6)).app (.cons (dy.same k6) .nil)
  · rintro H2 ⟨ok2, s2, acc, f2, da⟩
    rw [List.take_length] at da
    exact q _ _ ok2 (s1.trans (s2.trans (hide_le _ _))) (.lst f2 (da.same (hide_le _ _)))
/-! calls, statements -/
/-- a def that changes nothing: it yields f of its data, where pre holds of it -/
def spF (K : PySem.W.Frag) (m : Nat) (pre : List PyData → Prop) (f : List PyData → PyData) : Sp := fun vs H Q _ => ∃ (U : Wo) (n : Nat) (ds : List PyData), U.ok n H ∧ DdAll K (U.view H) vs ds ∧ ds.length = m ∧ pre ds ∧
  ∀ v H', U.ok n H' → Same (U.view H) (U.view H') → Dd K (U.view H') v (f ds) → Q v H'
theorem spF_len {m : Nat} {pre : List PyData → Prop} {f : List PyData → PyData} {vs : List V} {H : Hp} {Q : VK} {E : XK} (h : spF K m pre f vs H Q E) : vs.length = m := by
  obtain ⟨U, n, ds, _, hd, e, _⟩ := h
  rw [hd.len, e]
theorem e1_go {m : Nat} {pre : List PyData → Prop} {f : List PyData → PyData} {ds : List PyData} (h : A1 K U M t σ ds) (hm : ds.length = m) (hp : pre ds) : E1 K U M (tGo (spF K m pre f) t) σ (f ds) := fun n H a Q q =>
  h n H a _ fun vs H1 ok1 s1 d1 => ⟨U, n, ds, ok1, d1, hm, hp, fun v H2 ok2 s2 d2 => q v H2 ok2 (s1.trans s2) d2⟩
variable {D : Ends} {H : Hp}
theorem s1_ret {d : PyData} (a : At U n M H) (h : E1 K U M te σ d) (q : ∀ v H', At U n M H' → Same (U.view H) (U.view H') → Dd K (U.view H') v d → D.rt v H') : tRet te D σ H :=
  h n H a _ fun v H1 ok1 s1 d1 => q v H1 (a.step ok1 s1) s1 d1
theorem s1_asg {i : Nat} {d : PyData} (a : At U n M H) (h : E1 K U M te σ d) (q : ∀ v H', At U n (U.view H') H' → Same (U.view H) (U.view H') → Dd K (U.view H') v d → D.nx (σ.set i (some v)) H') : tAsg te (gName i) D σ H :=
  h n H a _ fun v H1 ok1 s1 d1 => q v H1 (At.here ok1) s1 d1
theorem s1_if {b : Bool} {t u : TS} (a : At U n M H) (h : T1 U M tt σ b) (q1 : b = true → ∀ H', At U n M H' → Same (U.view H) (U.view H') → t D σ H') (q2 : b = false → ∀ H', At U n M H' → Same (U.view H) (U.view H') → u D σ H') : tIfS tt t u D σ H :=
  h n H a _ fun H1 ok1 s1 => by
    cases b with
    | true => exact iteT (q1 rfl H1 (a.step ok1 s1) s1)
    | false => exact iteF (q2 rfl H1 (a.step ok1 s1) s1)
/-- the start of such a def's body -/
theorem spF_go {m : Nat} {pre : List PyData → Prop} {f : List PyData → PyData} {vs : List V} {Q : VK} {E : XK} (h : spF K m pre f vs H Q E) : ∃ (U : Wo) (n : Nat) (ds : List PyData), At U n (U.view H) H ∧ DdAll K (U.view H) vs ds ∧ ds.length = m ∧ pre ds ∧
    ∀ v H', U.ok n H' → Same (U.view H) (U.view H') → Dd K (U.view H') v (f ds) → Q v H' := by
  obtain ⟨U, n, ds, ok, hd, e, hp, q⟩ := h
  exact ⟨U, n, ds, At.here ok, hd, e, hp, q⟩
end
end Mw
namespace Mw
open PySem PySem.Spec PyProof.Rows L2
section
variable {P : Program} {w : World} {K : PySem.W.Frag} {mg : Str → Option Value} {base : Heap}
def spTake : Sp := fun vs H Q _ => ∃ (W : Wd) (n : Nat) (z : Int), vs = [.ref W.d, .int z] ∧ StOk W n H ∧ n ≤ most ∧ 0 < z ∧ z ≤ 18446744073709551616 ∧
  ∀ (k : Int) (H' : Hp), 0 ≤ k → k < z → StOk W (n + 1) H' → Same (mk W H) (mk W H') → Q (.int k) H'
theorem div_ok {z : Int} (h0 : 0 < z) (h1 : z ≤ 18446744073709551616) : CDivW 0 z := wide_div (b := 65) h0 (by
  have : z.natAbs ≤ 18446744073709551616 := by omega
  exact Nat.lt_of_le_of_lt this (by decide)) (by decide) (by decide)
theorem ok_take {f : Addr} {fd : FuncData} (F : Fun K "_law_take" "_law_take" s__law_take f fd) (T : Blt mg) (G__law_mixed : Def P w K mg base "_law_mixed" 1 ["state"] spMixed) : FnG P w K mg base 2 f fd ["state", "size"] spTake := by
  refine fnG F sc__law_take (fun vs H Q E h => ?_) (fun cdv A outer s H vs Q E hr h => ?_)
  · obtain ⟨W, n, z, rfl, _⟩ := h
    rfl
  · obtain ⟨W, n, z, rfl, ⟨r, t, ns, cs, S, ht⟩, hn, z0, z1, q⟩ := h
    have hu := hu_of hr.r
    have hu64 := hu64 hr.r
    have hsz : (most : Int) = 1000000000 := rfl
    refine ⟨_, Evl.pss_cut (ps_if (pt_cmpR op_eq (pe_dget hu (pv 0) pe_str (fun _ _ => rfl)) pe_int (nomark _))
        (pss_one (ps_dput hu (pv 0) pe_str (pe_ifExp (pt_cmpR (op_neD hu64) (pe_dget hu (pv 0) pe_str (fun _ _ => rfl)) (pe_lst pa_nil) (nomark _)) (pe_bm PySem.F.plainAttrs_list PySem.F.slot_list_pop PySem.F.type_list_pop mt_popAt (pe_dget hu (pv 0) pe_str (fun _ _ => rfl)) (pa_cons pe_int pa_nil)) (pe_go G__law_mixed hr (pa_cons (pv 0) pa_nil))) rfl))
        pss_nil)
        (pss_cons (ps_set (i := 2) sc__law_take.nd rfl (.inl rfl) (pe_op op_mod (pe_callTy call_int1 (by rfl) T.int (by decide +kernel) (pa_cons (pe_dget hu (pv 0) pe_str (fun _ _ => rfl)) pa_nil)) (pv 1)))
        (pss_cons (ps_dput hu (pv 0) pe_str (pe_op op_fdivW (pe_dget hu (pv 0) pe_str (fun _ _ => rfl)) (pv 1)) rfl)
        (pss_one (ps_ret (pv 2))))), ?_⟩
    refine ⟨fun σ H1 => σ = [some (.ref W.d), some (.int z), none] ∧ Same (mk W H) (mk W H1) ∧ ∃ (r1 t1 : Int) (ns1 : List Int), StAt W r1 t1 ns1 cs H1 ∧ t1 ≤ n + 1, ?_, ?_⟩
    · walk_at "mw"
      refine ⟨.ref W.d, rfl, W.d, .int r, rfl, ?_, rfl, _, rfl, ?_⟩
      · rw [← kv_rest W r t]
        exact DGet.k (k := Sum.inr "rest") S.d
      by_cases h0 : V.int r = V.int 0
      · rw [decide_eq_true h0]
        walk_at "mw"
        -- state["wide"] != []
        refine ⟨.ref W.d, rfl, W.d, .ref W.w, rfl, ?_, ?_⟩
        · rw [← kv_wide W r t]
          exact DGet.k (k := Sum.inr "wide") S.d
        walk_at "mw"
        refine ⟨by show 0 ≤ sizeLine; decide, fun p np => ?_⟩
        have e1 : Same H (upd H p (.lst [])) := same_upd np
        have S1 : StAt W r t ns cs (upd H p (.lst [])) := ⟨e1 _ _ S.d, e1 _ _ S.w, e1 _ _ S.c, S.ne, S.cs, S.t0⟩
        have m1 : Same (mk W H) (mk W (upd H p (.lst []))) := mk_same e1
        have hp : (upd H p (.lst [])) p = some (.lst []) := upd_same
        generalize upd H p (.lst []) = H1 at S1 m1 hp
        refine ne_nil (.inl (.inl S1.w)) (.inl (.inl hp)) (fun x hx => ?_) ?_
        · obtain ⟨i, _, rfl⟩ := List.mem_map.mp hx
          exact good_int i
        walk_at "mw"
        cases ns with
        | cons k ns =>
          refine iteT ?_
          walk_at "mw"
          refine ⟨.ref W.d, rfl, W.d, .ref W.w, rfl, ?_, ?_⟩
          · rw [← kv_wide W r t]
            exact DGet.k (k := Sum.inr "wide") S1.d
          refine ⟨.inl ⟨rfl, _, .inl (.inl S1.w)⟩, ?_⟩
          walk_at "mw"
          refine ⟨W.w, _, 0, 0, .int k, rfl, rfl, S1.w, by decide, by decide, (by rw [List.length_map, List.length_cons]; exact seqIndex_of (Int.le_refl 0) (by omega)), rfl, ?_⟩
          refine ⟨.ref W.d, rfl, W.d, _, rfl, DPut.k (k := Sum.inr "rest") (kvs := kvs0 W r t) (by rw [upd_ne S1.nwd.symm]; exact S1.d) (by show 4 < sizeLine; decide), ?_⟩
          rw [pk_rest]
          refine ⟨rfl, ?_, k, t, ns, ⟨upd_same, ?_, ?_, S1.ne, S1.cs, S1.t0⟩, by omega⟩
          · rw [mk_upd_d, mk_upd_w]
            exact m1
          · rw [upd_ne S1.nwd, upd_same]
            rfl
          · rw [upd_ne S1.ncd, upd_ne S1.ne]
            exact S1.c
        | nil =>
          refine iteF ?_
          walk_at "mw"
          refine ⟨W, r, t, [], cs, rfl, S1, by omega, fun k H2 S2 m2 => ?_⟩
          refine ⟨.ref W.d, rfl, W.d, _, rfl, DPut.k (k := Sum.inr "rest") (kvs := kvs0 W r (t + 1)) S2.d (by show 4 < sizeLine; decide), ?_⟩
          rw [pk_rest]
          refine ⟨rfl, ?_, k, t + 1, [], ⟨upd_same, ?_, ?_, S2.ne, S2.cs, S2.t0⟩, by omega⟩
          · rw [mk_upd_d]
            exact m1.trans m2
          · rw [upd_ne S2.nwd]
            exact S2.w
          · rw [upd_ne S2.ncd]
            exact S2.c
      · rw [decide_eq_false h0]
        walk_at "mw"
        exact ⟨rfl, Same.refl _, r, t, ns, S, by omega⟩
    · rintro σ H1 ⟨rfl, m1, r1, t1, ns1, S1, h1⟩
      walk_at "mw"
      refine ⟨.ref W.d, rfl, W.d, .int r1, rfl, ?_, ?_⟩
      · rw [← kv_rest W r1 t1]
        exact DGet.k (k := Sum.inr "rest") S1.d
      walk_at "mw"
      refine rd_I z0 ?_
      walk_at "mw"
      refine ⟨.ref W.d, rfl, W.d, .int r1, rfl, ?_, ?_⟩
      · rw [← kv_rest W r1 t1]
        exact DGet.k (k := Sum.inr "rest") S1.d
      walk_at "mw"
      refine rd_I (div_ok z0 z1) ?_
      refine ⟨.ref W.d, rfl, W.d, _, rfl, DPut.k (k := Sum.inr "rest") S1.d (by show 4 < sizeLine; decide), ?_⟩
      rw [pk_rest]
      walk_at "mw"
      refine q _ _ (Int.emod_nonneg r1 (by omega)) (Int.emod_lt_of_pos r1 z0) ⟨_, t1, ns1, cs, ⟨upd_same, ?_, ?_, S1.ne, S1.cs, S1.t0⟩, by omega⟩ ?_
      · rw [upd_ne S1.nwd]
        exact S1.w
      · rw [upd_ne S1.ncd]
        exact S1.c
      · rw [mk_upd_d]
        exact m1
/-- an item of a list, a tuple, a text -/
def spPick (K : PySem.W.Frag) : Sp := fun vs H Q _ => ∃ (W : Wd) (n : Nat) (y : V), vs = [.ref W.d, y] ∧ StOk W n H ∧ n ≤ most ∧
  ((∃ (p : Addr) (xs : List V), y = .ref p ∧ (SqL K (mk W H) p xs ∨ SqT K (mk W H) p xs) ∧ xs ≠ [] ∧ xs.length ≤ 100000 ∧ ∀ (x : V) (H' : Hp), x ∈ xs → StOk W (n + 1) H' → Same (mk W H) (mk W H') → Q x H') ∨
   (∃ z : Str, y = .str z ∧ 0 < z.length ∧ z.length ≤ 100000 ∧ ∀ (c : Nat) (H' : Hp), c ∈ z.cps.toList → StOk W (n + 1) H' → Same (mk W H) (mk W H') → Q (.str ⟨#[c]⟩) H'))
theorem ok_pick {f : Addr} {fd : FuncData} (F : Fun K "_law_pick" "_law_pick" s__law_pick f fd) (T : Blt mg) (G__law_take : Def P w K mg base "_law_take" 2 ["state", "size"] spTake) : FnG P w K mg base 3 f fd ["state", "some"] (spPick K) := by
  refine fnG F sc__law_pick (fun vs H Q E h => ?_) (fun cdv A outer s H vs Q E hr h => ?_)
  · obtain ⟨W, n, y, rfl, _⟩ := h
    rfl
  · obtain ⟨W, n, y, rfl, S, hn, q⟩ := h
    refine ⟨_, pss_one (ps_ret (pe_ix ix_seq (pv 1) (pe_go G__law_take hr (pa_cons (pv 0) (pa_cons (pe_callB call_len (by rfl) T.len (by decide +kernel) (pa_cons (pv 1) pa_nil)) pa_nil))) (fun _ _ => rfl))), ?_⟩
    walk_at "mw"
    rcases q with ⟨p, xs, rfl, hp, hne, hl, q⟩ | ⟨z, rfl, h0, hl, q⟩
    · have hp' : SqL K H p xs ∨ SqT K H p xs := hp.elim (fun z => .inl ((mk_le W H).seq z)) (fun z => .inr (seqT (mk_le W H) z))
      have hpos : 0 < xs.length := List.length_pos_iff.mpr hne
      refine ⟨_, xs.length, rfl, hp'.elim (fun z => .inl ⟨xs, z, rfl⟩) (fun z => .inr ⟨xs, z, rfl⟩), ?_⟩
      walk_at "mw"
      refine ⟨W, n, _, rfl, S, hn, by omega, by omega, fun k H1 k0 k1 S1 e1 => ?_⟩
      obtain ⟨j, rfl⟩ : ∃ j : Nat, k = j := ⟨k.toNat, by omega⟩
      have hj : j < xs.length := by omega
      have hx : xs[j]? = some xs[j] := List.getElem?_eq_getElem hj
      rcases hp with z | z
      · exact .inl ⟨p, xs, _, _, rfl, rfl, (mk_le W H1).seq (e1.seq z), atI_nat hx, q _ _ (List.getElem_mem hj) S1 e1⟩
      · exact .inr (.inl ⟨p, xs, _, _, rfl, rfl, seqT (mk_le W H1) (seqT e1 z), atI_nat hx, q _ _ (List.getElem_mem hj) S1 e1⟩)
    · refine ⟨_, z.length, rfl, ⟨Nat.le_trans hl (by decide), rfl⟩, ?_⟩
      walk_at "mw"
      refine ⟨W, n, _, rfl, S, hn, by omega, by omega, fun k H1 k0 k1 S1 e1 => ?_⟩
      obtain ⟨j, rfl⟩ : ∃ j : Nat, k = j := ⟨k.toNat, by omega⟩
      have hj : j < z.cps.toList.length := by
        have : z.length = z.cps.toList.length := by rw [Array.length_toList] <;> rfl
        omega
      have hx : z.cps.toList[j]? = some z.cps.toList[j] := List.getElem?_eq_getElem hj
      exact .inr (.inr ⟨z, _, _, rfl, rfl, Nat.le_trans hl (by decide), atI_nat hx, q _ _ (List.getElem_mem hj) S1 e1⟩)
/-- the items in some order, a new list -/
def spShuf (K : PySem.W.Frag) : Sp := fun vs H Q _ => ∃ (W : Wd) (n : Nat) (p : Addr) (xs : List V), vs = [.ref W.d, .ref p] ∧ StOk W n H ∧ n + xs.length ≤ most ∧ xs.length ≤ 100000 ∧ (SqL K (mk W H) p xs ∨ SqT K (mk W H) p xs) ∧ (∀ x ∈ xs, Good K (mk W H) x) ∧
  ∀ (l : Addr) (ys : List V) (H' : Hp), ys.Perm xs → H l = none → mk W H' l = some (.lst ys) → StOk W (n + xs.length) H' → Same (mk W H) (mk W H') → Q (.ref l) H'
theorem perm_erase {α : Type} : ∀ {ls : List α} {j : Nat} {x : α}, ls[j]? = some x → (x :: ls.eraseIdx j).Perm ls
  | [], j, x, h => by simp at h
  | a :: ls, 0, x, h => by
    have e : a = x := Option.some.inj h
    subst e
    exact List.Perm.refl _
  | a :: ls, j + 1, x, h => by
    have ih := perm_erase (ls := ls) (j := j) (x := x) h
    exact (List.Perm.swap a x _).trans (ih.cons a)
theorem perm_snoc {xs ls ys : List V} {j : Nat} {x : V} (h : (ys ++ ls).Perm xs) (hx : ls[j]? = some x) : ((ys ++ [x]) ++ ls.eraseIdx j).Perm xs := by
  refine List.Perm.trans ?_ h
  rw [List.append_assoc]
  refine List.Perm.append_left ys ?_
  show (x :: ls.eraseIdx j).Perm ls
  exact perm_erase hx
end
end Mw
/-! ### set(list or tuple of ints and texts), and how many it holds -/
namespace Mw
open PySem PySem.Spec PyProof.Rows L2
def hasK (ks : List Key) (k : Key) : Bool := ks.any fun x => decide (x = k)
theorem hasK_iff {ks : List Key} {k : Key} : hasK ks k = true ↔ k ∈ ks := by
  unfold hasK
  rw [List.any_eq_true]
  constructor
  · rintro ⟨x, hx, e⟩
    rw [← of_decide_eq_true e]
    exact hx
  · intro h
    exact ⟨k, h, decide_eq_true rfl⟩
/-- how many there are among the first i -/
def kinds (ks : List Key) : Nat → Nat
  | 0 => 0
  | i + 1 => if hasK (ks.take i) (ks.getD i (.inl 0)) = true then kinds ks i else kinds ks i + 1
theorem kinds_le (ks : List Key) : ∀ i, kinds ks i ≤ i
  | 0 => Nat.le_refl 0
  | i + 1 => by
    have h := kinds_le ks i
    unfold kinds
    split <;> omega
theorem take_more {ks : List Key} {i : Nat} (h : i < ks.length) : ks.take (i + 1) = ks.take i ++ [ks.getD i (.inl 0)] := by
  rw [List.take_add_one, List.getD_eq_getElem?_getD, List.getElem?_eq_getElem h] <;> rfl
theorem kinds_all {ks : List Key} (h : ks.Nodup) : ∀ i, i ≤ ks.length → kinds ks i = i
  | 0, _ => rfl
  | i + 1, hi => by
    have ih := kinds_all h i (by omega)
    have no : hasK (ks.take i) (ks.getD i (.inl 0)) = false := by
      cases e : hasK (ks.take i) (ks.getD i (.inl 0)) with
      | false => rfl
      | true =>
        have m := hasK_iff.mp e
        have h2 : (ks.take (i + 1)).Nodup := h.sublist (List.take_sublist _ _)
        rw [take_more (by omega)] at h2
        have h3 := (List.nodup_append.mp h2).2.2 _ m _ (List.mem_singleton.mpr rfl)
        exact absurd rfl h3
    unfold kinds
    rw [no, if_neg Bool.false_ne_true, ih]
theorem all_kinds {ks : List Key} : ∀ i, i ≤ ks.length → kinds ks i = i → (ks.take i).Nodup
  | 0, _, _ => by simp
  | i + 1, hi, h => by
    have hl := kinds_le ks i
    unfold kinds at h
    split at h
    · omega
    · rename_i no
      have ih := all_kinds (ks := ks) i (by omega) (by omega)
      rw [take_more (by omega), List.nodup_append]
      refine ⟨ih, by simp, fun a ha b hb e => ?_⟩
      rw [List.mem_singleton.mp hb] at e
      rw [e] at ha
      exact no (hasK_iff.mpr ha)
/-- the keys that values are -/
def KeysAre (prog : Program) (w : World) (vs : List Value) (ks : List Key) : Prop := Paired (fun v k => (mixKind prog w).is k v = true) vs ks
theorem keys_of {prog : Program} {w : World} : ∀ {ks : List Key} {us : List Value}, Vals (ks.map kV) us → KeysAre prog w us ks
  | [], _, .nil => .nil
  | .inl i :: ks, _, .cons r t => by
    obtain ⟨k, rfl⟩ := r
    exact .cons (mixKind_int _ _ i k) (keys_of t)
  | .inr x :: ks, _, .cons r t => by
    obtain ⟨k, rfl⟩ := r
    exact .cons (mixKind_str _ _ x k) (keys_of t)
theorem KeysAre.len {prog : Program} {w : World} {vs : List Value} {ks : List Key} (h : KeysAre prog w vs ks) : vs.length = ks.length := Paired.length h
theorem KeysAre.at {prog : Program} {w : World} : ∀ {vs : List Value} {ks : List Key}, KeysAre prog w vs ks → ∀ (i : Nat) (v : Value), vs[i]? = some v → (mixKind prog w).is (ks.getD i (.inl 0)) v = true
  | _, _, .nil, i, v, h => by simp at h
  | _, _, .cons r t, 0, v, h => by
    cases h
    exact r
  | _, _, .cons r t, i + 1, v, h => KeysAre.at t i v (by simpa using h)
theorem scan_key {prog : Program} {w : World} {k : Key} {v : Value} (h : (mixKind prog w).is k v = true) : v.scannable = true := by
  rcases keyIs_shape (show keyIs k v = true from h) with ⟨i, t, _, rfl⟩ | ⟨x, t, _, rfl⟩ <;> rfl
section
variable {prog : Program} {w : World} {A : Around} {R : Result → Shared → Prop} {I : Addr} {fp wr : List Addr} {G : Array GenState → Array GenState → Prop} {n : Nat} {P : Nat → Value → Prop} {St : Nat → Shared → Prop}
/-- the set at S holds the first i of ks -/
abbrev Held (prog : Program) (w : World) (ks : List Key) (S : Addr) (i : Nat) (h : Heap) : Prop := h.SetOf (mixKind prog w) S (hasK (ks.take i)) (kinds ks i)
theorem Held.to {ks : List Key} {S : Addr} {i : Nat} {h h' : Heap} (x : Held prog w ks S i h) (e : ∀ o, h.get? S = some o → h'.get? S = some o) : Held prog w ks S i h' := by
  obtain ⟨o, es, ep, t, ho, rest⟩ := x
  exact ⟨o, es, ep, t, e o ho, rest⟩
theorem held_is {h : Heap} {a : Addr} {S S' : Key → Bool} {m m' : Nat} (x : h.SetOf (mixKind prog w) a S m) (e : ∀ k, S k = S' k) (em : m = m') : h.SetOf (mixKind prog w) a S' m' := by
  obtain rfl : S = S' := funext e
  obtain rfl := em
  exact x
theorem fill_loop {ks : List Key} (W : WalksS prog w A.in1 I fp wr G n P St) (S : Addr) (out : S ∉ fp) (size : n = ks.length) (are : ∀ i v, P i v → (mixKind prog w).is (ks.getD i (.inl 0)) v = true) (room : n + 1 < scanBound) :
    ∀ (left i : Nat) (s : Shared), i + left = n → St i s → Held prog w ks S i s.heap →
      (∀ s', Moved (S :: wr) G s s' → Held prog w ks S n s'.heap → R (.ok (.ret .none)) s') → codeAny (model prog w) A (.builtin "set.update.loop" ⟨[.ref S, .ref I], []⟩) R s := by
  have notW : S ∉ wr := fun z => out (W.sub _ z)
  have wide : ∀ b ∈ wr, b ∈ S :: wr := fun b z => List.mem_cons_of_mem _ z
  intro left
  induction left with
  | zero =>
    intro i s hi st held fin
    obtain rfl : i = n := by omega
    refine codeAny_builtin PyProof.Rows.F.entry_set_update_loop ?_
    rw [Around.under_plainId PyProof.Rows.F.plain_set_update_loop _]
    change wpAny _ A.in1 (pyNext (.ref I) >>= _) _ _ s
    refine wpAny_bind (W.done s _ _ st ?_)
    intro s' moved
    change wpAny _ A.in1 (ret Value.none) _ _ s'
    exact wpAny_pure (fin s' (moved.mono wide) (held.to fun o e => moved.heap S o notW e))
  | succ left again =>
    intro i s hi st held fin
    have below : i < n := by omega
    refine codeAny_builtin PyProof.Rows.F.entry_set_update_loop ?_
    rw [Around.under_plainId PyProof.Rows.F.plain_set_update_loop _]
    change wpAny _ A.in1 (pyNext (.ref I) >>= _) _ _ s
    refine wpAny_bind (W.item i s _ _ below st ?_)
    intro v s1 pv st1 moved
    have isK := are i v pv
    have held1 : Held prog w ks S i s1.heap := held.to fun o e => moved.heap S o notW e
    change wpAny _ A.in1 (holding [v] (setAdd S v) >>= _) _ _ s1
    refine wpAny_bind (wpAny_holding ?_)
    unfold setAdd
    refine wpAny_holding (wpAny_bind ((mixKind prog w).pyHash isK ?_))
    refine wpAny_setAddHashed_of (s := { s1 with toks := s1.toks + 1 }) isK (scan_key isK) held1 (by have := kinds_le ks i; omega) ?_
    intro h2 only added
    have held2 : Held prog w ks S (i + 1) h2 := by
      refine held_is added ?_ ?_
      · intro k
        rw [take_more (show i < ks.length by omega)]
        unfold hasK
        rw [List.any_append]
        congr 1
        show decide (k = ks.getD i (.inl 0)) = (decide (ks.getD i (.inl 0) = k) || false)
        rw [Bool.or_false]
        exact decide_eq_decide.mpr ⟨fun z => z.symm, fun z => z.symm⟩
      · show _ = kinds ks (i + 1)
        rw [kinds]
    refine wpAny_pure ⟨plainId_quiet PyProof.Rows.F.plain_set_update_loop _, again (i + 1) _ (by omega) (W.frame _ s1 _ _ st1 (Nat.le_succ _) ?_) held2 ?_⟩
    · intro b hb o e
      rw [only.2 b (fun z => out (by rw [← z]; exact hb))]
      exact e
    · intro s3 moved3 held3
      refine fin s3 (Moved.trans W.gtrans ((moved.mono wide).then_heap (Nat.le_succ _) ?_) moved3) held3
      intro b o hb e
      rw [only.2 b (fun z => hb (by rw [z]; exact List.mem_cons_self))]
      exact e
end
/-- a new set -/
def set0 (led : Bool) : Obj := { cls := .type "set", dict := none, data := .set #[] 0 (.fresh 0 0 led) }
section
variable {prog : Program} {w : World} {A : Around} {E : Value → Shared → Prop} {s : Shared}
theorem set_seq {l : Addr} {items : Array Value} {ks : List Key} {Q : Value → Shared → Prop} (calm : A.handled = none) (seq : s.heap.IsList l items ∨ s.heap.IsTuple l items) (are : KeysAre prog w items.toList ks) (room : ks.length + 1 < scanBound)
    (out : ∀ (h' : Heap) (tk : Nat), Held prog w ks s.heap.objs.size ks.length h' → (∀ b o, b < s.heap.objs.size → s.heap.get? b = some o → h'.get? b = some o) → Q (.ref s.heap.objs.size) { s with heap := h', toks := tk }) :
    wpAny (model prog w) A (call (.type "set") [.ref l]) Q E s := by
  have size : items.size = ks.length := by rw [← are.len, Array.length_toList]
  obtain ⟨c, tl, hmro⟩ := PySem.F.called_set.mro
  have made := PySem.F.called_set.made
  have sub := PySem.F.called_set.sub
  have noType := PySem.F.called_set.notType
  have creates := PySem.F.called_set.canCreate
  have checked := PySem.F.typeCall_set_1 (.ref l)
  refine wpAny_call (codeAny_of_tree ?_)
  change wpAny _ _ (callAny (.type "set") _) _ _ _
  refine wpAny_pure ⟨Code.quiet_builtin _ (by decide +kernel), codeAny_builtin PySem.F.entry_type_call ?_⟩
  rw [Around.under_plain (weight_type_call_type "set" [.ref l] []) rfl]
  repeat (any_goals (first | assumption | wp_step))
  refine codeAny_mono (code_set_new_1 (.ref l) (E := E) (Q₁ := fun obj s₁ => ∃ led : Bool, obj = .ref s.heap.objs.size ∧ s₁ = { s with heap := s.heap.push (set0 led) }) (fun led => ⟨led, rfl, rfl⟩)) ?_
  intro r s₁ hr
  cases r with
  | error e => exact hr
  | ok fl =>
    cases fl with
    | next => exact hr.elim
    | brk => exact hr.elim
    | cont => exact hr.elim
    | ret obj =>
      obtain ⟨led, rfl, rfl⟩ := hr
      have atS : (s.heap.push (set0 led)).get? s.heap.objs.size = some (set0 led) := Heap.get?_push_size _ rfl
      have isSet : Shared.TypeIs { s with heap := s.heap.push (set0 led) } (.ref s.heap.objs.size) "set" := ⟨_, atS, rfl⟩
      have found := PySem.F.called_set.init.lookup
      have bound := PySem.F.called_set.init.bind (.ref s.heap.objs.size)
      repeat (any_goals (first | assumption | wp_step))
      refine codeAny_mono (codeAny_call_builtin (R := wants (fun r s₂ => r = .none ∧ ∃ h' tk, s₂ = { s with heap := h', toks := tk } ∧ Held prog w ks s.heap.objs.size ks.length h' ∧ (∀ b o, b < s.heap.objs.size → s.heap.get? b = some o → h'.get? b = some o)) E)
        PySem.F.called_set.init.plain PySem.F.entry_set_init (check_set_init_1 isSet ?_)) ?_
      · have before : s.heap.objs.size ≠ (s.heap.push (set0 led)).objs.size := by
          rw [Heap.size_push]
          exact Nat.ne_of_lt (Nat.lt_succ_self _)
        have calm3 : A.in1.in1.in1.handled = none := by simp [calm]
        have start : ∀ it : Obj, Held prog w ks s.heap.objs.size 0 ((s.heap.push (set0 led)).push it) := by
          intro it
          exact ⟨set0 led, #[], 0, .fresh 0 0 led, Heap.get?_push_of_some _ atS, ⟨rfl, rfl, rfl⟩, rfl, fun e he => by simp at he, fun k => by simp [hasK], by unfold scanBound; decide, by rfl, rfl⟩
        have close : ∀ (it : Obj) (s' : Shared), Moved (s.heap.objs.size :: [(s.heap.push (set0 led)).objs.size]) (fun a b => b = a) { s with heap := (s.heap.push (set0 led)).push it } s' → Held prog w ks s.heap.objs.size items.size s'.heap →
            ∃ h' tk, s' = { s with heap := h', toks := tk } ∧ Held prog w ks s.heap.objs.size ks.length h' ∧ (∀ b o, b < s.heap.objs.size → s.heap.get? b = some o → h'.get? b = some o) := by
          intro it s' moved held
          rw [size] at held
          obtain ⟨h', g', d', tk', os'⟩ := s'
          have eg : g' = s.gens := moved.gens
          have ed : d' = s.drawn := moved.drawn
          have eo : os' = s.os := moved.os
          subst eg ed eo
          refine ⟨h', tk', rfl, held, ?_⟩
          intro b o hb e
          refine moved.heap b o ?_ (Heap.get?_push_of_some _ (Heap.get?_push_of_some _ e))
          intro z
          have sz : (s.heap.push (set0 led)).objs.size = s.heap.objs.size + 1 := Heap.size_push _ _
          rcases List.mem_cons.mp z with z | z
          · exact Nat.ne_of_lt hb z
          · have z' := List.mem_singleton.mp z
            rw [sz] at z'
            exact Nat.ne_of_lt (Nat.lt_succ_of_lt hb) z'
        have val : ∀ (i : Nat) (v : Value), items[i]? = some v → (mixKind prog w).is (ks.getD i (.inl 0)) v = true := by
          intro i v hv
          exact are.at i v (by rw [Array.getElem?_toList]; exact hv)
        rcases seq with list | tuple
        · obtain ⟨⟨ocls, odict, odata, oslots⟩, hol, hcl, nl, hdl⟩ := list
          simp only at hcl hdl
          subst hcl hdl
          have low : l < s.heap.objs.size := Heap.lt_size hol
          have lAt := Heap.get?_push_of_some (set0 led) hol
          have lIs : (s.heap.push (set0 led)).IsList l items := ⟨_, lAt, rfl, nl, rfl⟩
          have no1 := PySem.F.sub_list_set
          have no2 := PySem.F.sub_list_frozenset
          have no3 : (Value.type "list" == Value.type "dict") = false := by decide
          have apart : l ≠ (s.heap.push (set0 led)).objs.size := by
            rw [Heap.size_push]
            exact Nat.ne_of_lt (Nat.lt_succ_of_lt low)
          have outside : s.heap.objs.size ∉ [(s.heap.push (set0 led)).objs.size, l] := by
            intro z
            rcases List.mem_cons.mp z with z | z
            · exact before z
            · exact Nat.ne_of_gt low (List.mem_singleton.mp z)
          unfold Builtin.«set.__init__» noKeywords Builtin.Frozenset.updateFrom
          generalize hPI : pyIter = PI
          wp_walk
          subst hPI
          refine wpAny_pyIter_list lIs (wpAny_bind (wpAny_runValue ?_))
          refine fill_loop ((Walks.list calm3 _ l apart items).toS) s.heap.objs.size outside size val (by rw [size]; exact room) items.size 0 _ (by omega) ⟨⟨_, Heap.get?_push_size _ rfl, rfl, rfl⟩, (lIs.push _)⟩ (start _) ?_
          intro s' moved held
          obtain ⟨h', tk, rfl, x, y⟩ := close _ s' moved held
          change wpAny _ _ _ _ _ _
          refine wpAny_pure ?_
          change wpAny _ _ (ret Value.none) _ _ _
          exact wpAny_pure ⟨rfl, h', tk, rfl, x, y⟩
        · obtain ⟨⟨ocls, odict, odata, oslots⟩, hol, hcl, nl, hdl⟩ := tuple
          simp only at hcl hdl
          subst hcl hdl
          have low : l < s.heap.objs.size := Heap.lt_size hol
          have lAt := Heap.get?_push_of_some (set0 led) hol
          have lIs : (s.heap.push (set0 led)).IsTuple l items := ⟨_, lAt, rfl, nl, rfl⟩
          have no1 := PySem.F.sub_tuple_set
          have no2 := PySem.F.sub_tuple_frozenset
          have no3 : (Value.type "tuple" == Value.type "dict") = false := by decide
          have apart : l ≠ (s.heap.push (set0 led)).objs.size := by
            rw [Heap.size_push]
            exact Nat.ne_of_lt (Nat.lt_succ_of_lt low)
          have outside : s.heap.objs.size ∉ [(s.heap.push (set0 led)).objs.size, l] := by
            intro z
            rcases List.mem_cons.mp z with z | z
            · exact before z
            · exact Nat.ne_of_gt low (List.mem_singleton.mp z)
          unfold Builtin.«set.__init__» noKeywords Builtin.Frozenset.updateFrom
          generalize hPI : pyIter = PI
          wp_walk
          subst hPI
          refine wpAny_pyIter_tuple lIs (wpAny_bind (wpAny_runValue ?_))
          refine fill_loop ((Walks.tuple calm3 _ l apart items).toS) s.heap.objs.size outside size val (by rw [size]; exact room) items.size 0 _ (by omega) ⟨⟨_, Heap.get?_push_size _ rfl, rfl, rfl⟩, (lIs.push _)⟩ (start _) ?_
          intro s' moved held
          obtain ⟨h', tk, rfl, x, y⟩ := close _ s' moved held
          change wpAny _ _ _ _ _ _
          refine wpAny_pure ?_
          change wpAny _ _ (ret Value.none) _ _ _
          exact wpAny_pure ⟨rfl, h', tk, rfl, x, y⟩
      · intro r₂ s₂ hr₂
        cases r₂ with
        | error e => exact hr₂
        | ok fl₂ =>
          cases fl₂ with
          | next => exact hr₂.elim
          | brk => exact hr₂.elim
          | cont => exact hr₂.elim
          | ret r =>
            obtain ⟨rfl, h', tk, rfl, held, keep⟩ := hr₂
            repeat (any_goals (first | assumption | wp_step))
            exact out _ _ held keep
end
end Mw
namespace Mw
open PySem PySem.Spec PyProof.Rows L2
def tLenK (K : PySem.W.Frag) (ta : TE) : TE := fun σ H Q => ta σ H fun x H1 => ∃ (l : Addr) (ks : List Key), x = .ref l ∧ (SqL K H1 l (ks.map kV) ∨ SqT K H1 l (ks.map kV)) ∧ ks.length ≤ 1000 ∧ Q (.int (kinds ks ks.length : Nat)) H1
theorem pe_lenK {X : Cx} {a : Expr} {ta : TE} {p p2 q pos : Pos} (ha : PE X a ta) (m1 : X.mg "len" = none) (m2 : X.mg "set" = none) (g1 : Gl X "len" := by rfl) (g2 : Gl X "set" := by rfl) (hc : X.calm = true := by rfl)
    (na : starEach [a] X.env = (false, eval a X.env) :: starEach [] X.env := by rfl) : PE X (.Call (.Name "len" p) [.Call (.Name "set" p2) [a] [] q] [] pos) (tLenK X.K ta) := by
  constructor
  intro pins s σ H Q I h
  refine Call_ (ld_blt I g1 m1 boot_len ?_)
  refine PyProof.Rows.callWith_builtin1 (PyProof.Rows.args_cons ?_ rfl) rfl rfl
  refine Call_ (ld_blt I g2 m2 boot_set ?_)
  refine PyProof.Rows.callWith_type1 (PyProof.Rows.args_cons (thn (ha.run pins s σ H _ I h) ?_) na) na rfl
  rintro v s1 ⟨x, H1, I1, r1, l, ks, rfl, seq, size, q1⟩
  refine PyProof.Rows.args_nil ?_
  cases r1
  have small : ks.length + 1 < scanBound := by unfold scanBound; omega
  have fin : ∀ (h' : Heap) (tk : Nat), Held X.prog X.w ks s1.heap.objs.size ks.length h' → (∀ b o, b < s1.heap.objs.size → s1.heap.get? b = some o → h'.get? b = some o) →
      wpAny (model X.prog X.w) X.A (spliced (backTo pos (starEach [] X.env))) (fun vs s₂ => wpAny (model X.prog X.w) X.A (call (.builtin "len") (Value.ref s1.heap.objs.size :: vs)) (EP X pins σ Q) X.xe s₂) X.xe { s1 with heap := h', toks := tk } := by
    rintro h' tk ⟨o, es, ep, t, ho, hx, hd, _, _, _, hf, hn⟩ keep
    refine PyProof.Rows.args_nil ?_
    have I2 : Inv X pins σ H1 { s1 with heap := h', toks := tk } := I1.kept fun b o e => keep b o (Heap.lt_size e) e
    have := kinds_le ks ks.length
    exact call_len_set ho hx hd hf (by rw [hn]; omega) ⟨.int (kinds ks ks.length : Nat), H1, I2.tok _, ⟨_, by rw [hn]⟩, q1⟩
  rcases seq with seq | seq
  · obtain ⟨its, r, pl, _⟩ := I1.list seq
    exact set_seq (ks := ks) (I1.ok.hd hc) (.inl pl.isList) (by simpa using keys_of r) small fin
  · obtain ⟨its, r, pl, _⟩ := I1.tuple seq
    exact set_seq (ks := ks) (I1.ok.hd hc) (.inr pl) (by simpa using keys_of r) small fin
def keyD : Key → PyData
  | .inl i => .int i
  | .inr x => .str x
theorem key_vals {K : PySem.W.Frag} {H : Hp} : ∀ {ks : List Key} {vs : List V}, DdAll K H vs (ks.map keyD) → vs = ks.map kV
  | [], _, .nil => rfl
  | .inl i :: ks, _, .cons h a => by
    cases h
    rw [List.map_cons, ← key_vals a] <;> rfl
  | .inr x :: ks, _, .cons h a => by
    cases h
    rw [List.map_cons, ← key_vals a] <;> rfl
theorem e1_lenK {K : PySem.W.Frag} {U : Wo} {M : Hp} {σ : L2.St} {te : TE} {d : PyData} {ks : List Key} (h : E1 K U M te σ d) (hd : d = .list (ks.map keyD) ∨ d = .tuple (ks.map keyD)) (z : ks.length ≤ 1000) :
    E1 K U M (tLenK K te) σ (.int (kinds ks ks.length : Nat)) := fun n H a Q q => h n H a _ fun v H1 ok1 s1 d1 => by
  rcases hd with rfl | rfl
  · cases d1 with
    | lst hq ha =>
      have e := key_vals ha
      subst e
      exact ⟨_, ks, rfl, .inl (.inl (.inl (U.le _ _ _ hq))), z, q _ H1 ok1 s1 (.int _)⟩
  · cases d1 with
    | tup hq ha =>
      have e := key_vals ha
      subst e
      exact ⟨_, ks, rfl, .inr (seqT (U.le _) hq), z, q _ H1 ok1 s1 (.int _)⟩
end Mw
/-! ### sorted of a tuple of texts -/
namespace Mw
open PySem PySem.Spec PyProof PyProof.Rows L2
section
variable {prog : Program} {w : World} {A : Around} {E : Value → Shared → Prop} {s : Shared}
theorem collect_tupM {l : Addr} {vs : List Value} {Q : List Value → Shared → Prop} (hl : s.heap.IsTuple l vs.toArray)
    (h : Q vs { s with heap := (s.heap.push (seqObj "list" #[] 0)).update s.heap.objs.size (Obj.mapSeq (· ++ vs.toArray)) }) (small : vs.length ≤ sizeLine) :
    wpAny (model prog w) A (collect (.ref l)) Q E s := by
  obtain ⟨o, ho, hc, n, hd⟩ := id hl
  unfold collect
  refine wpAny_bind (wpAny_runValue ( codeAny_builtin entry_proto_collect' ?_))
  show wpAny _ _ ( do again (.builtin "list.__iadd__" ⟨[← newList [], .ref l], []⟩)) _ _ s
  refine wpAny_bind (wpAny_newList ( wpAny_pure ⟨Code.quiet_builtin _ (by decide +kernel), codeAny_builtin entry_list_iadd' ?_⟩))
  show wpAny _ _ ( Builtin.List.listExtendWith (.ref s.heap.objs.size) (.ref l) (.ref s.heap.objs.size)) _ _ { s with heap := s.heap.push (seqObj "list" #[] 0) }
  unfold Builtin.List.listExtendWith
  have keep : (s.heap.push (seqObj "list" #[] 0)).get? l = some o := Heap.get?_push_of_some _ ho
  refine wpAny_bind (wpAny_typeOf (T := "tuple") ⟨o, keep, hc⟩ ?_)
  have yes : (Value.type "tuple" == Value.type "tuple") = true := by rfl
  rw [if_pos (by rw [yes]; simp)]
  refine wpAny_bind (listItems_at keep hd ?_)
  refine wpAny_bind (listItems_at (xs := #[]) (n := 0) ( Heap.get?_push_size _ rfl) rfl ?_)
  rw [if_neg (by simp)]
  refine wpAny_bind (listUpdate_at (xs := #[]) (n := 0) ( Heap.get?_push_size _ rfl) rfl ?_ (Nat.zero_le _) (by show (#[] ++ vs.toArray).size ≤ sizeLine + 1; simp only [Array.size_append, List.size_toArray, List.length_nil]; omega))
  refine wpAny_pure ?_
  show wpAny (model prog w) A (do
      let z ← load s.heap.objs.size
      match z.data with
      | .seq xs _ => pure xs.toList
      | _ => unsupported "internal:collect") Q E { s with heap := (s.heap.push (seqObj "list" #[] 0)).update s.heap.objs.size (Obj.mapSeq (· ++ vs.toArray)) }
  refine wpAny_bind (wpAny_load (get?_update_seq ( Heap.get?_push_size _ rfl) _) ?_)
  show wpAny _ _ ( pure ((#[] : Array Value) ++ vs.toArray).toList) Q E _
  rw [show ((#[] : Array Value) ++ vs.toArray).toList = vs by simp]
  exact wpAny_pure h
theorem sorted_tupM {l : Addr} {vs : List Value} {ss : List Str} {Q : Value → Shared → Prop} (hl : s.heap.IsTuple l vs.toArray) (hS : StrsAre vs ss) (h64 : vs.length < 64)
    (h : ∀ (out : Array Value) (ys : List Str), StrsAre out.toList ys → ys.Perm ss → sortedS ys = true → Q (.ref (s.heap.objs.size + 1)) { s with heap := sortedAll s.heap vs out }) :
    wpAny (model prog w) A (call (.builtin "sorted") [.ref l]) Q E s := by
  refine Calls.call_function_entry kind_sorted plain_sorted entry_sorted ( args_sorted1 _) ?_
  unfold Builtin.«sorted»
  refine wpAny_bind (m := checkCount "sorted" 1 1 _) ( wpAny_pure ?_)
  refine wpAny_bind (collect_tupM hl ?_ (by have : (64 : Nat) ≤ sizeLine := (by decide); omega))
  refine wpAny_bind (wpAny_newList ?_)
  have size : ((s.heap.push (seqObj "list" #[] 0)).update s.heap.objs.size (Obj.mapSeq (· ++ vs.toArray))).objs.size = s.heap.objs.size + 1 := by
    rw [Heap.size_update, size_push']
  have here : (((s.heap.push (seqObj "list" #[] 0)).update s.heap.objs.size (Obj.mapSeq (· ++ vs.toArray))).push (seqObj "list" vs.toArray 0)).get? (s.heap.objs.size + 1) = some (seqObj "list" vs.toArray 0) := by
    rw [← size]
    exact Heap.get?_push_size _ rfl
  show wpAny _ _ _ _ _ { s with heap := ((s.heap.push (seqObj "list" #[] 0)).update s.heap.objs.size (Obj.mapSeq (· ++ vs.toArray))).push (seqObj "list" vs.toArray 0) }
  rw [size]
  refine wpAny_bind (wpAny_holding (wpAny_call_entry slot_list_sort ⟨_, here, rfl⟩ entry_list_sort (list_sort_treeK strKind_oneLt here hS.keysOf (fun v1 v2 rest e => keyKind_strs (by rw [← e]; exact hS)) h64 fun st' a1 a2 => ⟨_, rfl, ?_⟩) ( args_list_sort _)))
  obtain ⟨ys, h1, h2, h3⟩ := sorted_out_str hS a1 a2
  exact wpAny_pure ⟨_, rfl, h _ ys h1 h2 h3⟩
end
/-- sorted of a list or a tuple of texts -/
def rSortedB (K : PySem.W.Frag) : List V → Hp → VK → Prop := fun vs H Q => ∃ (a : Addr) (xs : List Str), vs = [V.ref a] ∧ (SqL K H a (xs.map V.str) ∨ SqT K H a (xs.map V.str)) ∧ xs.length < 64 ∧
  ∀ (ys : List Str) (p : Addr), ys.Perm xs → H p = none → Q (.ref p) (upd H p (.lst (ys.map V.str)))
theorem cr_sortedB {X : Cx} : CallR X (.builtin "sorted") (rSortedB X.K) := by
  intro pins s σ H vs us Q I r h
  obtain ⟨a, xs, rfl, hs, h64, q⟩ := h
  rcases hs with hs | hs
  · exact cr_sortedS pins s σ H _ us Q I r ⟨a, xs, rfl, hs, h64, fun ys p h1 _ h3 => q ys p h1 h3⟩
  · obtain ⟨its, rv, hl, _⟩ := I.tuple hs
    rw [Vals.ref1 r]
    have len := rv.length
    rw [List.length_map] at len
    refine sorted_tupM hl rv.strs (by rw [← len]; exact h64) fun out ys h1 h2 h3 => ?_
    obtain ⟨ep, he⟩ := sortedAll_at s.heap its out
    have fits : (ys.map V.str).length ≤ sizeLine := by
      rw [List.length_map, h2.length_eq]
      exact small64 h64
    exact ⟨.ref _, upd H (s.heap.objs.size + 1) (.lst (ys.map V.str)), I.laid (t' := s.toks) (fun _ _ => sortedAll_old) (Nat.le_succ _) ⟨fits, out.toList, ep, vals_of_strs h1, he⟩, rfl, q ys _ h2 (I.hok.fresh (Nat.le_succ _))⟩
end Mw
/-! ### what an expression that may draw yields: some data -/
namespace Mw
open PySem PySem.Spec PyProof.Rows L2
/-! what may be shown -/
def okd (k m : Nat) (d : PyData) : Bool := d.showable && (d.leavesShort 200 && (decide (d.depth ≤ k) && decide (d.weight ≤ m)))
theorem okd_iff {k m : Nat} {d : PyData} : okd k m d = true ↔ d.showable = true ∧ d.leavesShort 200 = true ∧ d.depth ≤ k ∧ d.weight ≤ m := by simp [okd]
theorem okd_more {k m k' m' : Nat} {d : PyData} (h : okd k m d = true) (hk : k ≤ k') (hm : m ≤ m') : okd k' m' d = true := by
  rw [okd_iff] at h ⊢
  exact ⟨h.1, h.2.1, Nat.le_trans h.2.2.1 hk, Nat.le_trans h.2.2.2 hm⟩
theorem okd_fit {k m : Nat} {d : PyData} (h : okd k m d = true) (hk : k ≤ 60) (hm : m ≤ 50000) : Fit d := by
  rw [okd_iff] at h
  refine ⟨h.1, Nat.le_trans h.2.2.1 hk, ?_⟩
  have a := PyData.shown_le 200 (by decide) d h.2.1
  have b : (12000000 : Nat) ≤ sizeLine := by decide
  omega
theorem okd_all {k m : Nat} : ∀ {ds : List PyData}, (∀ d ∈ ds, okd k m d = true) → PyData.showableAll ds = true ∧ PyData.leavesShortAll 200 ds = true ∧ PyData.depthAll ds ≤ k ∧ PyData.weightAll ds ≤ ds.length * (m + 1)
  | [], _ => ⟨rfl, rfl, Nat.zero_le _, Nat.zero_le _⟩
  | d :: ds, h => by
    obtain ⟨a1, a2, a3, a4⟩ := okd_iff.mp (h d (List.mem_cons_self ..))
    obtain ⟨b1, b2, b3, b4⟩ := okd_all (ds := ds) fun e he => h e (List.mem_cons_of_mem _ he)
    refine ⟨?_, ?_, ?_, ?_⟩
    · simp [PyData.showableAll, a1, b1]
    · simp [PyData.leavesShortAll, a2, b2]
    · simp only [PyData.depthAll]
      omega
    · simp only [PyData.weightAll, List.length_cons]
      rw [Nat.add_mul]
      omega
theorem okd_list {k m L : Nat} {ds : List PyData} (h : ∀ d ∈ ds, okd k m d = true) (l : ds.length ≤ L) : okd (k + 1) (L * (m + 1)) (.list ds) = true ∧ okd (k + 1) (L * (m + 1)) (.tuple ds) = true := by
  obtain ⟨b1, b2, b3, b4⟩ := okd_all h
  have l2 := Nat.mul_le_mul_right (m + 1) l
  constructor
  · rw [okd_iff]
    simp only [PyData.showable, PyData.leavesShort, PyData.depth, PyData.weight]
    exact ⟨b1, b2, by omega, by omega⟩
  · rw [okd_iff]
    simp only [PyData.showable, PyData.leavesShort, PyData.depth, PyData.weight]
    exact ⟨b1, b2, by omega, by omega⟩
theorem okd_int {i : Int} (h : i.natAbs < 10 ^ 12) : okd 0 64 (.int i) = true := by
  have h2 : i.natAbs.log2 < 64 ∨ i.natAbs = 0 := by
    by_cases z : i.natAbs = 0
    · exact .inr z
    · refine .inl ((Nat.log2_lt z).mpr (Nat.lt_trans h (by decide)))
  have h3 : i.natAbs.log2 < 64 := by
    rcases h2 with z | z
    · exact z
    · rw [z]
      decide
  rw [okd_iff]
  refine ⟨?_, ?_, Nat.le_refl _, ?_⟩
  · simp only [PyData.showable, decide_eq_true_eq]
    omega
  · have := PyData.shown_int_le h
    simp only [PyData.leavesShort, decide_eq_true_eq]
    omega
  · simp only [PyData.weight]
    split <;> omega
theorem okd_str {x : Str} {m : Nat} (h : x.cps.size ≤ m) (c : ∀ c ∈ x.cps.toList, c < 16 ^ 8) : okd 0 m (.str x) = true := by
  rw [okd_iff]
  refine ⟨rfl, ?_, Nat.le_refl _, h⟩
  simp only [PyData.leavesShort, List.all_eq_true, decide_eq_true_eq]
  exact c
/-- the world of draws, some objects out of sight perhaps -/
structure Of (U : Wo) (W : Wd) : Prop where
  st : ∀ {n H}, U.ok n H → StOk W n H
  go : ∀ {n n' H H'}, U.ok n H → StOk W n' H' → Same (mk W H) (mk W H') → U.ok n' H' ∧ Same (U.view H) (U.view H')
  le : ∀ H, Same (U.view H) (mk W H)
  new : ∀ {n H H' l x}, U.ok n H → H l = none → mk W H' l = some x → U.view H' l = some x
theorem of_wd (W : Wd) : Of (wd W) W := ⟨fun h => h, fun _ h e => ⟨h, e⟩, fun H => Same.refl _, fun _ _ h => h⟩
theorem Of.hide {U : Wo} {W : Wd} (o : Of U W) (D : Addr) (x : HO) : Of (U.hide D x) W where
  st := fun h => o.st h.1
  go := fun h s e => by
    obtain ⟨a, b⟩ := o.go h.1 s e
    exact ⟨⟨a, b _ _ h.2⟩, hide_same b⟩
  le := fun H => (hide_le D _).trans (o.le H)
  new := fun h nl e => hide_at (o.new h.1 nl e) (fun z => by
    rw [z, U.le _ _ _ h.2] at nl
    cases nl)
section
variable {K : PySem.W.Frag} {U : Wo} {W : Wd} {M : Hp} {σ : L2.St} {n k k1 k2 m : Nat} {te ta tb : TE} {t : TA} {tt tu : TT} {R S : PyData → Prop}
def E3 (K : PySem.W.Frag) (U : Wo) (M : Hp) (k : Nat) (te : TE) (σ : L2.St) (R : PyData → Prop) : Prop :=
  ∀ n H, At U n M H → n + k ≤ most → ∀ Q : VK, (∀ v d H', R d → U.ok (n + k) H' → Same (U.view H) (U.view H') → Dd K (U.view H') v d → Q v H') → te σ H Q
def A3 (K : PySem.W.Frag) (U : Wo) (M : Hp) (k : Nat) (t : TA) (σ : L2.St) (R : List PyData → Prop) : Prop :=
  ∀ n H, At U n M H → n + k ≤ most → ∀ Q : List V → Hp → Prop, (∀ vs ds H', R ds → U.ok (n + k) H' → Same (U.view H) (U.view H') → DdAll K (U.view H') vs ds → Q vs H') → t σ H Q
def T3 (U : Wo) (M : Hp) (k : Nat) (tt : TT) (σ : L2.St) : Prop := ∀ n H, At U n M H → n + k ≤ most → ∀ Q : Bool → Hp → Prop, (∀ b H', U.ok (n + k) H' → Same (U.view H) (U.view H') → Q b H') → tt σ H Q
def I3 (K : PySem.W.Frag) (U : Wo) (M : Hp) (k : Nat) (wi : TI) (σ : L2.St) (P : List PyData → Prop) : Prop := ∀ n H, At U n M H → n + k ≤ most → ∀ R : It → Hp → Prop, (∀ J ds H', P ds → U.ok (n + k) H' → Same (U.view H) (U.view H') →
  Walk J ds.length (fun H2 => Same (U.view H') (U.view H2)) (fun i H2 v H3 => H3 = H2 ∧ ∃ d, ds[i]? = some d ∧ Dd K (U.view H') v d) → R J H') → wi σ H R
theorem E1.e3 {d : PyData} (h : E1 K U M te σ d) (r : R d) : E3 K U M 0 te σ R := fun n H a _ Q q => h n H a Q fun v H' ok s dd => q v d H' r ok s dd
theorem E3.more (h : E3 K U M k te σ R) (l : k ≤ m) : E3 K U M m te σ R := fun n H a hn Q q => h n H a (by omega) Q fun v d H' r ok s dd => q v d H' r (U.mono ok (by omega)) s dd
theorem E3.weak (h : E3 K U M k te σ R) (l : ∀ d, R d → S d) : E3 K U M k te σ S := fun n H a hn Q q => h n H a hn Q fun v d H' r ok s dd => q v d H' (l d r) ok s dd
theorem I1.i3 {wi : TI} {ds : List PyData} {P : List PyData → Prop} (h : I1 K U M wi σ ds) (p : P ds) : I3 K U M 0 wi σ P := fun n H a _ Q q => h n H a Q fun J H' ok s w => q J ds H' p ok s w
def Each (m : Nat) (R : PyData → Prop) (ds : List PyData) : Prop := ds.length = m ∧ ∀ d ∈ ds, R d
theorem a3_nil : A3 K U M 0 tNil σ (Each 0 R) := fun n H a _ Q q => q [] [] H ⟨rfl, fun _ h => nomatch h⟩ a.ok (Same.refl _) .nil
theorem a3_cons (h : E3 K U M k1 te σ R) (hs : A3 K U M k2 t σ (Each m R)) : A3 K U M (k1 + k2) (tCons te t) σ (Each (m + 1) R) := fun n H a hn Q q =>
  h n H a (by omega) _ fun v d H1 r1 ok1 s1 d1 => hs (n + k1) H1 ⟨ok1, a.up.trans s1⟩ (by omega) _ fun vs ds H2 r2 ok2 s2 d2 => q _ (d :: ds) H2
    ⟨congrArg Nat.succ r2.1, fun e he => (List.mem_cons.mp he).elim (fun z => z ▸ r1) (r2.2 e)⟩ (by rw [← Nat.add_assoc]; exact ok2) (s1.trans s2) (.cons (d1.same s2) d2)
theorem e3_lst (h : A3 K U M k t σ (Each m R)) (z : m ≤ 100000) : E3 K U M k (tLst t) σ (fun d => ∃ ds, d = .list ds ∧ Each m R ds) := fun n H a hn Q q =>
  h n H a hn _ fun vs ds H1 r ok1 s1 d1 => ⟨thousand (by rw [d1.len, r.1]; exact z), fun p np => by
    obtain ⟨ok2, s2, f2, _⟩ := U.new (o := .lst vs) ok1 np rfl
    exact q _ _ _ ⟨ds, rfl, r⟩ ok2 (s1.trans s2) (.lst f2 (d1.same s2))⟩
theorem DdAll.mem {H : Hp} {vs : List V} {ds : List PyData} {v : V} (h : DdAll K H vs ds) (hv : v ∈ vs) : ∃ d, d ∈ ds ∧ Dd K H v d := by
  obtain ⟨i, hi⟩ := List.mem_iff_getElem?.mp hv
  obtain ⟨d, hd, dd⟩ := h.at hi
  exact ⟨d, List.mem_of_getElem? hd, dd⟩
theorem DdAll.perm {H : Hp} {ys xs : List V} (p : ys.Perm xs) : ∀ {ds : List PyData}, DdAll K H xs ds → ∃ es, es.Perm ds ∧ DdAll K H ys es := by
  induction p with
  | nil => exact fun h => ⟨_, List.Perm.refl _, h⟩
  | cons x p ih =>
    intro ds h
    cases h with
    | cons a b =>
      obtain ⟨es, e1, e2⟩ := ih b
      exact ⟨_, e1.cons _, .cons a e2⟩
  | swap x y l =>
    intro ds h
    cases h with
    | cons a b =>
      cases b with
      | cons c e => exact ⟨_, List.Perm.swap _ _ _, .cons c (.cons a e)⟩
  | trans p1 p2 ih1 ih2 =>
    intro ds h
    obtain ⟨es, e1, e2⟩ := ih2 h
    obtain ⟨fs, f1, f2⟩ := ih1 e2
    exact ⟨fs, f1.trans e1, f2⟩
/-! operators -/
theorem e3_op1 {r : R2} {d2 : PyData} {f : PyData → PyData} (ha : E3 K U M k ta σ R) (hb : E1 K U M tb σ d2) (hr : ∀ d, R d → R1 K U r d d2 (f d)) : E3 K U M k (tOp r ta tb) σ (fun e => ∃ d, R d ∧ e = f d) := fun n H a hn Q q =>
  ha n H a hn _ fun x d H1 r1 ok1 s1 d1 => hb (n + k) H1 ⟨ok1, a.up.trans s1⟩ _ fun y H2 ok2 s2 e2 => hr d r1 (n + k) H2 x y ok2 (d1.same s2) e2 Q fun v H3 ok3 s3 e3 => q v _ H3 ⟨d, r1, rfl⟩ ok3 ((s1.trans s2).trans s3) e3
theorem e3_op2 {r : R2} {d1 : PyData} {f : PyData → PyData} (ha : E1 K U M ta σ d1) (hb : E3 K U M k tb σ R) (hr : ∀ d, R d → R1 K U r d1 d (f d)) : E3 K U M k (tOp r ta tb) σ (fun e => ∃ d, R d ∧ e = f d) := fun n H a hn Q q =>
  ha n H a _ fun x H1 ok1 s1 e1 => hb n H1 (a.step ok1 s1) hn _ fun y d H2 r1 ok2 s2 e2 => hr d r1 (n + k) H2 x y ok2 (e1.same s2) e2 Q fun v H3 ok3 s3 e3 => q v _ H3 ⟨d, r1, rfl⟩ ok3 ((s1.trans s2).trans s3) e3
theorem t3_test (h : E3 K U M k te σ (fun d => ∃ b, d = .bool b)) : T3 U M k (tTest te) σ := fun n H a hn Q q => h n H a hn _ fun v d H1 r ok1 s1 d1 => by
  obtain ⟨b, rfl⟩ := r
  cases d1
  exact ⟨b, rfl, q b H1 ok1 s1⟩
theorem T1.t3 {b : Bool} (h : T1 U M tt σ b) : T3 U M 0 tt σ := fun n H a _ Q q => h n H a Q fun H' ok s => q b H' ok s
/-! draws -/
variable {i : Nat}
theorem e3_take {z : Int} (o : Of U W) (hv : σ[i]? = some (some (.ref W.d))) (h : E1 K U M ta σ (.int z)) (z0 : 0 < z) (z1 : z ≤ 18446744073709551616) : E3 K U M 1 (tGo spTake (tCons (tVar i) (tCons ta tNil))) σ (fun d => ∃ j : Int, d = .int j ∧ 0 ≤ j ∧ j < z) := fun n H a hn Q q =>
  ⟨_, hv, h n H a _ fun v H1 ok1 s1 d1 => by
    cases d1
    refine ⟨W, n, z, rfl, o.st ok1, by omega, z0, z1, fun j H2 k0 k1 S2 e2 => ?_⟩
    obtain ⟨ok2, s2⟩ := o.go ok1 S2 e2
    exact q _ _ _ ⟨j, rfl, k0, k1⟩ ok2 (s1.trans s2) (.int j)⟩
theorem e3_pick (o : Of U W) (hv : σ[i]? = some (some (.ref W.d))) (h : E3 K U M k ta σ (fun d => ∃ ds, (d = .list ds ∨ d = .tuple ds) ∧ ds ≠ [] ∧ ds.length ≤ 100000 ∧ ∀ e ∈ ds, R e)) : E3 K U M (k + 1) (tGo (spPick K) (tCons (tVar i) (tCons ta tNil))) σ R := fun n H a hn Q q =>
  ⟨_, hv, h n H a (by omega) _ fun v d H1 r ok1 s1 d1 => by
    obtain ⟨ds, e, ne, hl, hr⟩ := r
    have out : ∀ (xs : List V), DdAll K (U.view H1) xs ds → ∀ (x : V) (H2 : Hp), x ∈ xs → StOk W (n + k + 1) H2 → Same (mk W H1) (mk W H2) → Q x H2 := fun xs ha x H2 hx S2 e2 => by
      obtain ⟨ok2, s2⟩ := o.go ok1 S2 e2
      obtain ⟨f, hf, df⟩ := ha.mem hx
      exact q x f H2 (hr f hf) ok2 (s1.trans s2) (df.same s2)
    have nn : ∀ (xs : List V), DdAll K (U.view H1) xs ds → xs ≠ [] ∧ xs.length ≤ 100000 := fun xs ha => by
      refine ⟨fun z => ?_, by rw [ha.len]; exact hl⟩
      subst z
      cases ha
      exact ne rfl
    rcases e with rfl | rfl
    · cases d1 with
      | lst hq ha => exact ⟨W, n + k, _, rfl, o.st ok1, by omega, .inl ⟨_, _, rfl, .inl (.inl (.inl (o.le _ _ _ hq))), (nn _ ha).1, (nn _ ha).2, out _ ha⟩⟩
    · cases d1 with
      | tup hq ha => exact ⟨W, n + k, _, rfl, o.st ok1, by omega, .inl ⟨_, _, rfl, .inr (seqT (o.le _) hq), (nn _ ha).1, (nn _ ha).2, out _ ha⟩⟩⟩
theorem e3_picks {x : Str} (o : Of U W) (hv : σ[i]? = some (some (.ref W.d))) (h : E1 K U M ta σ (.str x)) (h0 : 0 < x.length) (h1 : x.length ≤ 100000) : E3 K U M 1 (tGo (spPick K) (tCons (tVar i) (tCons ta tNil))) σ (fun d => ∃ c ∈ x.cps.toList, d = .str ⟨#[c]⟩) := fun n H a hn Q q =>
  ⟨_, hv, h n H a _ fun v H1 ok1 s1 d1 => by
    cases d1
    refine ⟨W, n, _, rfl, o.st ok1, by omega, .inr ⟨x, rfl, h0, h1, fun c H2 hc S2 e2 => ?_⟩⟩
    obtain ⟨ok2, s2⟩ := o.go ok1 S2 e2
    exact q _ _ _ ⟨c, hc, rfl⟩ ok2 (s1.trans s2) (.str _)⟩
theorem e3_shuf {d : PyData} {ds : List PyData} (o : Of U W) (hv : σ[i]? = some (some (.ref W.d))) (h : E1 K U M ta σ d) (hd : d = .list ds ∨ d = .tuple ds) (hl : ds.length ≤ 100000) (hg : ∀ e ∈ ds, e.canLay0 = true ∧ e.depth ≤ 60) :
    E3 K U M ds.length (tGo (spShuf K) (tCons (tVar i) (tCons ta tNil))) σ (fun d => ∃ es, d = .list es ∧ es.Perm ds) := fun n H a hn Q q =>
  ⟨_, hv, h n H a _ fun v H1 ok1 s1 d1 => by
    have gd : ∀ (xs : List V), DdAll K (U.view H1) xs ds → ∀ x ∈ xs, Good K (mk W H1) x := fun xs ha x hx => by
      obtain ⟨f, hf, df⟩ := ha.mem hx
      exact ⟨f, (df.same (o.le _)).dp (hg f hf).1, (hg f hf).1, (hg f hf).2⟩
    have out : ∀ (xs : List V), DdAll K (U.view H1) xs ds → ∀ (l : Addr) (ys : List V) (H2 : Hp), ys.Perm xs → H1 l = none → mk W H2 l = some (.lst ys) → StOk W (n + xs.length) H2 → Same (mk W H1) (mk W H2) → Q (.ref l) H2 := fun xs ha l ys H2 hp nl hl S2 e2 => by
      obtain ⟨ok2, s2⟩ := o.go ok1 S2 e2
      obtain ⟨es, p1, p2⟩ := DdAll.perm hp ha
      rw [ha.len] at ok2
      exact q _ _ _ ⟨es, rfl, p1⟩ ok2 (s1.trans s2) (.lst (o.new ok1 nl hl) (p2.same s2))
    rcases hd with rfl | rfl
    · cases d1 with
      | lst hq ha => exact ⟨W, n, _, _, rfl, o.st ok1, by rw [ha.len]; exact hn, by rw [ha.len]; exact hl, .inl (.inl (.inl (o.le _ _ _ hq))), gd _ ha, out _ ha⟩
    · cases d1 with
      | tup hq ha => exact ⟨W, n, _, _, rfl, o.st ok1, by rw [ha.len]; exact hn, by rw [ha.len]; exact hl, .inr (seqT (o.le _) hq), gd _ ha, out _ ha⟩⟩
/-! comprehensions, text -/
theorem i1_rng {j : Int} (h : E1 K U M te σ (.int j)) (j0 : -(2 ^ 62) ≤ j) (j1 : j < 2 ^ 62) : I1 K U M (iRng1 (tCons te tNil)) σ ((List.range j.toNat).map fun i => .int (Int.ofNat i)) := fun n H a R r => h n H a _ fun v H1 ok1 s1 d1 => by
  cases d1
  refine ⟨j, rfl, j0, j1, r _ H1 ok1 s1 ?_⟩
  rw [List.length_map, List.length_range]
  refine walk_range.mono (fun _ _ => trivial) (fun i H2 x H3 hi z y => ?_)
  obtain ⟨y1, y2⟩ := y
  refine ⟨y1, .int (Int.ofNat i), ?_, ?_⟩
  · rw [List.getElem?_map, List.getElem?_range hi] <;> rfl
  · rw [y2]
    show Dd K _ (.int (0 + (i : Int))) _
    rw [Int.zero_add]
    exact .int _
theorem i3_rng {P : Int → Prop} (h : E3 K U M k te σ (fun d => ∃ j : Int, d = .int j ∧ P j ∧ -(2 ^ 62) ≤ j ∧ j < 2 ^ 62)) : I3 K U M k (iRng1 (tCons te tNil)) σ (fun ds => ∃ j : Int, P j ∧ ds = (List.range j.toNat).map fun i => .int (Int.ofNat i)) := fun n H a hn R r => h n H a hn _ fun v d H1 r1 ok1 s1 d1 => by
  obtain ⟨j, rfl, pj, j0, j1⟩ := r1
  cases d1
  refine ⟨j, rfl, j0, j1, r _ _ H1 ⟨j, pj, rfl⟩ ok1 s1 ?_⟩
  rw [List.length_map, List.length_range]
  refine walk_range.mono (fun _ _ => trivial) (fun i H2 x H3 hi z y => ?_)
  obtain ⟨y1, y2⟩ := y
  refine ⟨y1, .int (Int.ofNat i), ?_, ?_⟩
  · rw [List.getElem?_map, List.getElem?_range hi] <;> rfl
  · rw [y2]
    show Dd K _ (.int (0 + (i : Int))) _
    rw [Int.zero_add]
    exact .int _
/-- [e for x in xs], e draws -/
theorem e3_lc {wi : TI} {j k0 m : Nat} {vs : List Nat} {P : List PyData → Prop} (o : Of U W) (h : I3 K U M k0 wi σ P) (z : ∀ ds, P ds → ds.length ≤ m) (z1 : m ≤ 100000) (hw : ∀ x, wipe ((wipe σ vs).set j (some x)) vs = wipe σ vs)
    (he : ∀ (U' : Wo) M' v, Of U' W → Same M M' → E3 K U' M' k te ((wipe σ vs).set j (some v)) R) :
    E3 K U M (k0 + m * k) (tLc wi (gName j) tYes te vs) σ (fun d => ∃ ds es, P ds ∧ d = .list es ∧ es.length = ds.length ∧ ∀ e ∈ es, R e) := fun n H a hn Q q => h n H a (by omega) _ fun J ds H1 p ok1 s1 w => by
  intro D nD
  have hm : ds.length ≤ m := z ds p
  have a1 : Same M (U.view H1) := a.up.trans s1
  have nD0 : U.view H1 D = none := by
    cases e : U.view H1 D with
    | none => rfl
    | some x =>
      rw [U.le _ _ _ e] at nD
      cases nD
  have off : Same (U.view H1) (hideV D (U.view H1)) := fun b x e => hide_at e (fun q => by
    rw [q, nD0] at e
    cases e)
  refine lc_it w (fun i H' => U.ok (n + k0 + i * k) H' ∧ Same (U.view H1) (hideV D (U.view H')) ∧ ∃ acc es, U.view H' D = some (.lst acc) ∧ DdAll K (hideV D (U.view H')) acc es ∧ es.length = i ∧ ∀ e ∈ es, R e) ?_ (fun i H' _ z => z.2.1.trans (hide_le _ _)) ?_ ?_
  · obtain ⟨ok2, s2, f2, _⟩ := U.new (o := .lst []) ok1 nD rfl
    exact ⟨by rw [Nat.zero_mul]; exact ok2, off.trans (hide_same s2), [], [], f2, .nil, rfl, fun _ h => nomatch h⟩
  · rintro i x H2 H3 hi ⟨ok2, s2, acc, es, f2, da, el, er⟩ ⟨rfl, d, hd, dx⟩
    have hik : i * k + k ≤ m * k := by
      have := Nat.mul_le_mul_right k (show i + 1 ≤ m by omega)
      rwa [Nat.add_mul, Nat.one_mul] at this
    refine ⟨hw x, ?_⟩
    refine rd_yes (L2.iteT ?_)
    refine he (U.hide D (.lst acc)) (U.view H1) x (o.hide D _) a1 _ H3 ⟨⟨ok2, f2⟩, s2⟩ (by omega) _ fun y e H5 r5 ok5 s5 dy => ?_
    have hl : acc.length ≤ 100000 := by
      rw [da.len, el]
      omega
    refine ⟨acc, U.le _ _ _ ok5.2, Nat.lt_of_le_of_lt hl (by decide), ?_⟩
    obtain ⟨ok6, f6, o6⟩ := U.own (o := .lst (acc ++ [y])) ok5.1 ok5.2 rfl
    have k6 : Same (hideV D (U.view H5)) (hideV D (U.view (upd H5 D (.lst (acc ++ [y]))))) := fun b u e => hide_at (o6 b u (hide_of e).1 (hide_of e).2) (hide_of e).1
    refine ⟨?_, (s2.trans s5).trans k6, _, es ++ [e], f6, (da.same (s5.trans k6)).app (.cons (dy.same k6) .nil), ?_, ?_⟩
    · rw [Nat.add_mul, Nat.one_mul, ← Nat.add_assoc]
      exact ok6
    · rw [List.length_append, el] <;> rfl
    · intro e' he'
      rcases List.mem_append.mp he' with h1 | h1
      · exact er e' h1
      · rw [List.mem_singleton.mp h1]
        exact r5
  · rintro H2 ⟨ok2, s2, acc, es, f2, da, el, er⟩
    have hik := Nat.mul_le_mul_right k hm
    exact q _ _ _ ⟨ds, es, p, rfl, el, er⟩ (U.mono ok2 (by omega)) (s1.trans (s2.trans (hide_le _ _))) (.lst f2 (da.same (hide_le _ _)))
/-! defs that draw -/
def spD (K : PySem.W.Frag) (m k : Nat) (pre : List PyData → Prop) (R : List PyData → PyData → Prop) : Sp := fun vs H Q _ => ∃ (U : Wo) (W : Wd) (n : Nat) (ws : List V) (ds : List PyData), Of U W ∧ vs = .ref W.d :: ws ∧ U.ok n H ∧ n + k ≤ most ∧
  DdAll K (U.view H) ws ds ∧ ds.length = m ∧ pre ds ∧ ∀ v d H', R ds d → U.ok (n + k) H' → Same (U.view H) (U.view H') → Dd K (U.view H') v d → Q v H'
theorem spD_len {pre : List PyData → Prop} {R : List PyData → PyData → Prop} {vs : List V} {H : Hp} {Q : VK} {E : XK} (h : spD K m k pre R vs H Q E) : vs.length = m + 1 := by
  obtain ⟨U, W, n, ws, ds, _, rfl, _, _, hd, e, _⟩ := h
  rw [List.length_cons, hd.len, e]
theorem e3_god {pre : List PyData → Prop} {R : List PyData → PyData → Prop} {ds : List PyData} (o : Of U W) (hv : σ[i]? = some (some (.ref W.d))) (h : A1 K U M t σ ds) (hm : ds.length = m) (hp : pre ds) : E3 K U M k (tGo (spD K m k pre R) (tCons (tVar i) t)) σ (R ds) := fun n H a hn Q q =>
  ⟨_, hv, h n H a _ fun vs H1 ok1 s1 d1 => ⟨U, W, n, vs, ds, o, rfl, ok1, hn, d1, hm, hp, fun v d H2 r ok2 s2 d2 => q v d H2 r ok2 (s1.trans s2) d2⟩⟩
/-- a def that draws nothing, one of several answers -/
def spR (K : PySem.W.Frag) (m : Nat) (pre : List PyData → Prop) (R : List PyData → PyData → Prop) : Sp := fun vs H Q _ => ∃ (U : Wo) (n : Nat) (ds : List PyData), U.ok n H ∧ n ≤ most ∧ DdAll K (U.view H) vs ds ∧ ds.length = m ∧ pre ds ∧
  ∀ v d H', R ds d → U.ok n H' → Same (U.view H) (U.view H') → Dd K (U.view H') v d → Q v H'
theorem spR_len {pre : List PyData → Prop} {R : List PyData → PyData → Prop} {vs : List V} {H : Hp} {Q : VK} {E : XK} (h : spR K m pre R vs H Q E) : vs.length = m := by
  obtain ⟨U, n, ds, _, _, hd, e, _⟩ := h
  rw [hd.len, e]
theorem e3_gor {pre : List PyData → Prop} {R : List PyData → PyData → Prop} {ds : List PyData} (h : A1 K U M t σ ds) (hm : ds.length = m) (hp : pre ds) : E3 K U M 0 (tGo (spR K m pre R) t) σ (R ds) := fun n H a hn Q q =>
  h n H a _ fun vs H1 ok1 s1 d1 => ⟨U, n, ds, ok1, by omega, d1, hm, hp, fun v d H2 r ok2 s2 d2 => q v d H2 r ok2 (s1.trans s2) d2⟩
/-! statements -/
variable {D : Ends} {H : Hp}
theorem s3_asg {i : Nat} (a : At U n M H) (hn : n + k ≤ most) (h : E3 K U M k te σ R) (q : ∀ v d H', R d → At U (n + k) (U.view H') H' → Same (U.view H) (U.view H') → Dd K (U.view H') v d → D.nx (σ.set i (some v)) H') : tAsg te (gName i) D σ H :=
  h n H a hn _ fun v d H1 r ok1 s1 d1 => q v d H1 r (At.here ok1) s1 d1
theorem s3_ret (a : At U n M H) (hn : n + k ≤ most) (h : E3 K U M k te σ R) (q : ∀ v d H', R d → U.ok (n + k) H' → Same (U.view H) (U.view H') → Dd K (U.view H') v d → D.rt v H') : tRet te D σ H :=
  h n H a hn _ fun v d H1 r ok1 s1 d1 => q v d H1 r ok1 s1 d1
theorem s3_if {t u : TS} (a : At U n M H) (hn : n + k ≤ most) (h : T3 U M k tt σ) (q1 : ∀ H', At U (n + k) M H' → Same (U.view H) (U.view H') → t D σ H') (q2 : ∀ H', At U (n + k) M H' → Same (U.view H) (U.view H') → u D σ H') : tIfS tt t u D σ H :=
  h n H a hn _ fun b H1 ok1 s1 => by
    cases b with
    | true => exact iteT (q1 H1 ⟨ok1, a.up.trans s1⟩ s1)
    | false => exact iteF (q2 H1 ⟨ok1, a.up.trans s1⟩ s1)
/-! dicts that are written -/
theorem e1_dis1 {x : Str} {j : Int} : E1 K U M (tDisp [(tC (.str x), tC (.int j))]) σ (.dict [(.str x, .int j)]) := fun n H a Q q p np => by
  obtain ⟨ok2, s2, f2, _⟩ := U.new (o := .dK []) a.ok np rfl
  obtain ⟨ok3, f3, o3⟩ := U.own (o := .dK [(.inr x, .int j)]) ok2 f2 rfl
  refine ⟨upd_same, [(.inr x, .int j)], rfl, (show 1 ≤ 15 by decide), ?_⟩
  refine q _ _ ok3 (fun b u e => o3 b u (fun z => ?_) (s2 _ _ e)) (.dic (ps := [(.str x, .int j)]) f3 (.cons (.str x) .nil) (.cons (.int j) .nil))
  rw [z] at e
  rw [U.le _ _ _ e] at np
  cases np
theorem e1_dis0 : E1 K U M tDNewK σ (.dict []) := fun n H a Q q p np => by
  obtain ⟨ok2, s2, f2, _⟩ := U.new (o := .dK []) a.ok np rfl
  exact q _ _ ok2 s2 (.dic (ps := []) f2 .nil .nil)
/-! slices of lists -/
def cutD (ds : List PyData) (lo hi : Option Int) : List PyData := (ds.drop (HT.sIx ds.length 0 lo)).take (HT.sIx ds.length ds.length hi - HT.sIx ds.length 0 lo)
theorem DdAll.cut {H : Hp} {vs : List V} {ds : List PyData} (h : DdAll K H vs ds) (lo hi : Option Int) : DdAll K H (cutV vs lo hi) (cutD ds lo hi) := by
  unfold cutV cutD
  rw [h.len]
  exact (h.drop _).take _
theorem cutD_mem {ds : List PyData} {lo hi : Option Int} {d : PyData} (h : d ∈ cutD ds lo hi) : d ∈ ds := List.mem_of_mem_drop (List.mem_of_mem_take h)
theorem e1_sl {tl th : TO} {ds : List PyData} {lo hi : Option Int} (h : E1 K U M te σ (.list ds)) (hlo : ∀ H (Q : Option Int → Hp → Prop), Q lo H → tl σ H Q) (hhi : ∀ H (Q : Option Int → Hp → Prop), Q hi H → th σ H Q) :
    E1 K U M (tSl (rSlL K) te tl th) σ (.list (cutD ds lo hi)) := fun n H a Q q => h n H a _ fun v H1 ok1 s1 d1 => by
  cases d1 with
  | lst hq ha =>
    refine hlo H1 _ (hhi H1 _ ⟨_, _, rfl, .inl (.inl (U.le _ _ _ hq)), fun p np => ?_⟩)
    obtain ⟨ok2, s2, f2, _⟩ := U.new ok1 np rfl
    exact q _ _ ok2 (s1.trans s2) (.lst f2 ((ha.cut lo hi).same s2))
/-- part := n, an int that a slot has -/
theorem po_var {i : Nat} {j : Int} (h : σ[i]? = some (some (.int j))) : ∀ H (Q : Option Int → Hp → Prop), Q (some j) H → tPart (tVar i) σ H Q := fun H Q q => ⟨_, h, j, rfl, q⟩
theorem po_non : ∀ H (Q : Option Int → Hp → Prop), Q none H → tNoPart σ H Q := fun H Q q => q
end
end Mw
/-! ### data among texts: x in ("a", ..), with x of any kind -/
namespace Mw
open PySem PySem.Spec PyProof PyProof.Rows L2 PySem.SeqAt PySem.MeetsSeq
open AutoSeq1 (wpAny_loadPart')
theorem text_declines_dict (b : Str) (u : Tok) (l : Addr) (c : Value) (es : Array DictEntry) (ep : Nat) (dd : Option Addr) (sl : Array (Option Value)) :
    Meets ( Builtin.«str.__eq__» ⟨[.str b u, .ref l], []⟩) (fun _ R s => s.heap.get? l = some { cls := c, dict := dd, data := .dict es ep, slots := sl } ∧ R ( .ok (.ret .notImplemented)) s) :=
  .of_wp fun prog w A R s h => by
    obtain ⟨hp, g, d, tk, os⟩ := s
    obtain ⟨hl, h⟩ := h
    wp_walk using wpAny_loadPart' hl, wpAny_load hl
    exact ⟨_, rfl, h⟩
section
variable {A : Around} {s : Shared}
theorem rc_text_dict {l : Addr} {es : Array DictEntry} {ep : Nat} {dd : Option Addr} {sl : Array (Option Value)} (b : Str) (u : Tok) (hl : s.heap.get? l = some { cls := .type "dict", dict := dd, data := .dict es ep, slots := sl }) (hu : A.units < cLine) : RcAt A s (.str b u) (.ref l) false := fun prog w E Q h =>
  rc_eq_decline_or (k := false) (typeIs_str s b u) ⟨_, hl, rfl⟩ (by decide) F.sub_dict_str F.slot_str_eq F.slot_dict_eq_refl
    (fun _ hq => call_meets F.slot_str_eq (typeIs_str s b u) F.entry_str_eq (F.args_str_eq_2 _ _) (text_declines_dict b u l (.type "dict") es ep dd sl) ⟨hl, hq⟩)
    (fun _ hq => by
      refine wpAny_call_entry F.slot_dict_eq_refl ⟨_, hl, rfl⟩ F.entry_dict_eq ?_ (F.args_dict_eq_2 _ _)
      show wpAny _ _ ( Builtin.Dict.dictSlotArgs "__eq__" ⟨[.ref l, .str b u], []⟩ >>= _) _ _ s
      refine wpAny_bind ?_
      unfold Builtin.Dict.dictSlotArgs
      refine wpAny_bind (wpAny_notOrdered_dict ⟨_, hl, rfl⟩ ?_)
      show wpAny _ _ ( pure (Value.ref l, Value.str b u)) _ _ s
      refine wpAny_pure ?_
      refine wpAny_bind (wpAny_isInstance (T := "str") (typeIs_str s b u) F.sub_str_dict ?_)
      simp only [Bool.not_false, if_true]
      refine wpAny_bind (wpAny_rule ?_)
      exact wpAny_pure ⟨_, rfl, hq⟩)
    (fun _ hq => wpAny_of_eq (rfl : isSame (.str b u) (.ref l) = pure false) hq) ( .inr hu) h
theorem eq_text_dict {l : Addr} {es : Array DictEntry} {ep : Nat} {dd : Option Addr} {sl : Array (Option Value)} (b : Str) (u : Tok) (hl : s.heap.get? l = some { cls := .type "dict", dict := dd, data := .dict es ep, slots := sl }) (hu : A.units < cLine) : EqAt A s (.str b u) (.ref l) false := fun prog w E Q h => by
  unfold eqBool
  refine wpAny_holding ?_
  refine wpAny_ite_split (fun hab => absurd (eq_of_beq hab) nofun) (fun _ => ?_)
  exact wpAny_bind (rc_text_dict b u hl hu prog w E _ ( wpAny_truthy_bool h))
end
def oneT (d : PyData) (t : Str) : Bool := match d with
  | .str x => t == x
  | _ => false
def inText (d : PyData) (ts : List Str) : Bool := ts.any (oneT d)
section
variable {X : Cx} {pins : List (Addr × Obj)} {σ : L2.St} {H : Hp} {s : Shared}
theorem text_eqAt (I : Inv X pins σ H s) (hu : X.A.units + 64 < cLine) {v : V} {d : PyData} {u : Value} (h : Dd X.K H v d) (r : RelV v u) (t : Str) (tok : Tok) : EqAt X.A.in1 s (.str t tok) u (oneT d t) := by
  have h1 : X.A.in1.units < cLine := Nat.lt_of_le_of_lt (show X.A.units + 1 ≤ X.A.units + 64 by omega) hu
  cases h with
  | non =>
    cases r
    exact .str_none t tok
  | bl b =>
    cases r
    exact .str_bool t tok b
  | int i =>
    obtain ⟨k, rfl⟩ := r
    exact .str_int t tok i k
  | str x =>
    obtain ⟨k, rfl⟩ := r
    exact .str_str t tok x k
  | lst hl ha =>
    cases r
    obtain ⟨its, rv, pl, _⟩ := I.list (.inl (.inl hl))
    exact .str_list t tok pl.isList h1
  | tup hl ha =>
    cases r
    obtain ⟨its, rv, pl, _⟩ := I.tuple hl
    exact .str_tuple t tok pl h1
  | dic hl ha hb =>
    cases r
    obtain ⟨_, ns, vs, kv, o, es, ep, ho, hx, hd, _, hp, _⟩ := dk_of I.hok hl
    obtain ⟨cls, dd, data, sl⟩ := o
    have e1 : cls = .type "dict" := hx.1
    have e2 : data = .dict es ep := hd
    subst e1 e2
    exact eq_text_dict t tok ho h1
def eT (d : PyData) : Value → Bool
  | .str t _ => oneT d t
  | _ => false
theorem texts_any {d : PyData} : ∀ {ts : List Str} {us : List Value}, Vals (ts.map V.str) us → us.any (eT d) = inText d ts ∧ ∀ u ∈ us, ∃ t k, u = .str t k
  | [], _, .nil => ⟨rfl, fun _ h => by cases h⟩
  | t :: ts, _, .cons r rs => by
    obtain ⟨k, rfl⟩ := r
    obtain ⟨a, b⟩ := texts_any (d := d) (ts := ts) rs
    refine ⟨?_, fun u hu => (List.mem_cons.mp hu).elim (fun z => ⟨t, k, z⟩) (b u)⟩
    show (oneT d t || _) = _
    rw [a] <;> rfl
/-- x in a tuple of texts, x any data -/
def rInA (K : PySem.W.Frag) (neg : Bool) : R2 := fun x y H Q => ∃ (d : PyData) (l : Addr) (ts : List Str), Dd K H x d ∧ y = .ref l ∧ SqT K H l (ts.map V.str) ∧ Q (.bl (if neg then !inText d ts else inText d ts)) H
theorem op_inA (hu : X.A.units + 64 < cLine) : OpR X (compareOp .In) (rInA X.K false) := by
  intro pins s σ H x y v u Q I rx ry h
  obtain ⟨d, l, ts, hd, rfl, hq, q⟩ := h
  cases ry
  obtain ⟨its, r, pl, _⟩ := I.tuple hq
  obtain ⟨e1, e2⟩ := texts_any (d := d) r
  refine in_tupleAt (eT d) pl (fun w hw => ?_) ⟨.bl _, H, I, rfl, ?_⟩
  · obtain ⟨t, k, rfl⟩ := e2 w (by simpa using hw)
    exact text_eqAt I hu hd rx t k
  · rw [show its.toArray.any (eT d) = its.any (eT d) by simp, e1]
    exact q
theorem op_notInA (hu : X.A.units + 64 < cLine) : OpR X (compareOp .NotIn) (rInA X.K true) := by
  intro pins s σ H x y v u Q I rx ry h
  obtain ⟨d, l, ts, hd, rfl, hq, q⟩ := h
  cases ry
  obtain ⟨its, r, pl, _⟩ := I.tuple hq
  obtain ⟨e1, e2⟩ := texts_any (d := d) r
  refine notIn_tupleAt (eT d) pl (fun w hw => ?_) ⟨.bl _, H, I, rfl, ?_⟩
  · obtain ⟨t, k, rfl⟩ := e2 w (by simpa using hw)
    exact text_eqAt I hu hd rx t k
  · rw [show its.toArray.any (eT d) = its.any (eT d) by simp, e1]
    exact q
end
theorem r1_inA {K : PySem.W.Frag} {U : Wo} {neg : Bool} {d : PyData} {ts : List Str} : R1 K U (rInA K neg) d (.tuple (ts.map .str)) (.bool (if neg then !inText d ts else inText d ts)) := fun n H x y ok h1 h2 Q q => by
  cases h2 with
  | tup hq ha =>
    have e0 : ts.map PyData.str = (ts.map (Sum.inr : Str → Key)).map keyD := by rw [List.map_map] <;> rfl
    rw [e0] at ha
    have e1 := key_vals ha
    rw [List.map_map] at e1
    subst e1
    exact ⟨d, _, ts, h1.same (U.le _), rfl, seqT (U.le _) hq, q _ H ok (Same.refl _) (.bl _)⟩
/-! x == [], x == () where x has items of any kind -/
def rEq0 (K : PySem.W.Frag) : R2 := fun x y H Q => ∃ (a b : Addr) (xs : List V), x = .ref a ∧ y = .ref b ∧ ((SqL K H a xs ∧ SqL K H b []) ∨ (SqT K H a xs ∧ SqT K H b [])) ∧ Q (.bl xs.isEmpty) H
theorem op_eq0 {X : Cx} (hu : X.A.units + 64 < cLine) : OpR X (compareOp .Eq) (rEq0 X.K) := by
  intro pins s σ H x y v u Q I rx ry h
  obtain ⟨a, b, xs, rfl, rfl, hq, q⟩ := h
  cases rx
  cases ry
  have h1 : X.A.units < cLine := by omega
  rcases hq with ⟨h2, h3⟩ | ⟨h2, h3⟩
  · obtain ⟨i1, r1, p1, _⟩ := I.list h2
    obtain ⟨i2, r2, p2, _⟩ := I.list h3
    cases r2
    cases r1 with
    | nil => exact eq_listAt (e := fun _ => true) p1.isList p2.isList rfl h1 (fun j h _ => absurd h (Nat.not_lt_zero _)) ⟨.bl _, H, I, rfl, q⟩
    | cons c cs => exact eq_list_lengthsAt p1.isList p2.isList rfl h1 ⟨.bl _, H, I, rfl, q⟩
  · obtain ⟨i1, r1, p1, _⟩ := I.tuple h2
    obtain ⟨i2, r2, p2, _⟩ := I.tuple h3
    cases r2
    refine eq_tupleAt (e := fun _ => true) p1 p2 h1 (fun j _ h => absurd h (Nat.not_lt_zero _)) ⟨.bl _, H, I, rfl, ?_⟩
    cases r1 with
    | nil => exact q
    | cons c cs => exact q
theorem r1_eq0L {K : PySem.W.Frag} {U : Wo} {ds : List PyData} : R1 K U (rEq0 K) (.list ds) (.list []) (.bool ds.isEmpty) := fun n H x y ok h1 h2 Q q => by
  cases h1 with
  | lst hq ha =>
    cases h2 with
    | lst hr hb =>
      cases hb
      refine ⟨_, _, _, rfl, rfl, .inl ⟨.inl (.inl (U.le _ _ _ hq)), .inl (.inl (U.le _ _ _ hr))⟩, ?_⟩
      cases ha with
      | nil => exact q _ H ok (Same.refl _) (.bl _)
      | cons c cs => exact q _ H ok (Same.refl _) (.bl _)
theorem r1_eq0T {K : PySem.W.Frag} {U : Wo} {ds : List PyData} : R1 K U (rEq0 K) (.tuple ds) (.tuple []) (.bool ds.isEmpty) := fun n H x y ok h1 h2 Q q => by
  cases h1 with
  | tup hq ha =>
    cases h2 with
    | tup hr hb =>
      cases hb
      refine ⟨_, _, _, rfl, rfl, .inr ⟨seqT (U.le _) hq, seqT (U.le _) hr⟩, ?_⟩
      cases ha with
      | nil => exact q _ H ok (Same.refl _) (.bl _)
      | cons c cs => exact q _ H ok (Same.refl _) (.bl _)
end Mw
/-! ### a dict that changes, out of sight -/
namespace Mw
open PySem PySem.Spec PyProof.Rows L2
/-- one object out of sight, of which Pm holds -/
def Wo.part (U : Wo) (F : Addr) (Pm : HO → Prop) : Wo where
  view := fun H => hideV F (U.view H)
  ok := fun n H => U.ok n H ∧ ∃ o, U.view H F = some o ∧ Pm o
  le := fun H => (hide_le F _).trans (U.le H)
  mono := fun h l => ⟨U.mono h.1 l, h.2⟩
  new := by
    intro n H H1 p o' h np e
    obtain ⟨x, y, z, w⟩ := U.new h.1 np e
    obtain ⟨o, ho, hp⟩ := h.2
    have pD : p ≠ F := fun q => by
      rw [q, U.le _ _ _ ho] at np
      cases np
    refine ⟨⟨x, o, y _ _ ho, hp⟩, hide_same y, hide_at z pD, ?_⟩
    unfold hideV
    rw [if_neg pD]
    exact w
  own := by
    intro n H H1 p o1 o2 h hp e
    obtain ⟨pD, hp⟩ := hide_of hp
    obtain ⟨o, ho, hm⟩ := h.2
    obtain ⟨x, y, z⟩ := U.own h.1 hp e
    exact ⟨⟨x, o, z _ _ pD.symm ho, hm⟩, hide_at y pD, fun a u n q => hide_at (z a u n (hide_of q).2) (hide_of q).1⟩
theorem Of.part {U : Wo} {W : Wd} (o : Of U W) (F : Addr) (Pm : HO → Prop) : Of (U.part F Pm) W where
  st := fun h => o.st h.1
  go := fun h s e => by
    obtain ⟨a, b⟩ := o.go h.1 s e
    obtain ⟨x, hx, px⟩ := h.2
    exact ⟨⟨a, x, b _ _ hx, px⟩, hide_same b⟩
  le := fun H => (hide_le F _).trans (o.le H)
  new := fun h nl e => hide_at (o.new h.1 nl e) (fun z => by
    obtain ⟨x, hx, _⟩ := h.2
    rw [z, U.le _ _ _ hx] at nl
    cases nl)
def frameK (tf ln : Addr) (m : Int) : List (Key × V) := [(.inr "fields", .ref tf), (.inr "numbers", .ref ln), (.inr "marks", .int m)]
/-- F is a frame there -/
structure Fr (U : Wo) (F tf ln : Addr) : Prop where
  get : ∀ {n H}, U.ok n H → ∃ m : Int, H F = some (.dK (frameK tf ln m))
  set : ∀ {n H H1} {m : Int}, U.ok n H → upd H F (.dK (frameK tf ln m)) = H1 → U.ok n H1 ∧ Same (U.view H) (U.view H1)
theorem Fr.hide {U : Wo} {F tf ln : Addr} (f : Fr U F tf ln) (D : Addr) (o : HO) : Fr (U.hide D o) F tf ln where
  get := fun h => f.get h.1
  set := fun h e => by
    obtain ⟨a, b⟩ := f.set h.1 e
    exact ⟨⟨a, b _ _ h.2⟩, hide_same b⟩
theorem fr_part (U : Wo) (F tf ln : Addr) : Fr (U.part F fun o => ∃ m : Int, o = .dK (frameK tf ln m)) F tf ln where
  get := fun h => by
    obtain ⟨o, ho, m, rfl⟩ := h.2
    exact ⟨m, U.le _ _ _ ho⟩
  set := by
    intro n H H1 m h e
    obtain ⟨o, ho, m0, rfl⟩ := h.2
    obtain ⟨x, y, z⟩ := U.own h.1 ho e
    exact ⟨⟨x, _, y, m, rfl⟩, fun a u q => hide_at (z a u (hide_of q).1 (hide_of q).2) (hide_of q).1⟩
section
variable {K : PySem.W.Frag} {U : Wo} {W : Wd} {M : Hp} {σ : L2.St} {n k k1 k2 m : Nat} {te ta tb : TE} {t : TA} {R S : PyData → Prop} {F tf ln : Addr} {i j : Nat}
theorem fr_fields (f : Fr U F tf ln) (h : σ[i]? = some (some (.ref F))) {d : PyData} (hd : Dd K M (.ref tf) d) : E1 K U M (tDGet (tVar i) (tC (.str "fields"))) σ d := fun n H a Q q => by
  obtain ⟨m, hF⟩ := f.get a.ok
  refine ⟨_, h, F, .ref tf, rfl, ?_, q _ H a.ok (Same.refl _) (hd.same a.up)⟩
  have g := DGet.k (k := (Sum.inr "fields" : Key)) hF
  exact g
theorem fr_numbers (f : Fr U F tf ln) (h : σ[i]? = some (some (.ref F))) {d : PyData} (hd : Dd K M (.ref ln) d) : E1 K U M (tDGet (tVar i) (tC (.str "numbers"))) σ d := fun n H a Q q => by
  obtain ⟨m, hF⟩ := f.get a.ok
  refine ⟨_, h, F, .ref ln, rfl, ?_, q _ H a.ok (Same.refl _) (hd.same a.up)⟩
  have g := DGet.k (k := (Sum.inr "numbers" : Key)) hF
  exact g
theorem fr_marks (f : Fr U F tf ln) (h : σ[i]? = some (some (.ref F))) : E3 K U M 0 (tDGet (tVar i) (tC (.str "marks"))) σ (fun d => ∃ m : Int, d = .int m) := fun n H a _ Q q => by
  obtain ⟨m, hF⟩ := f.get a.ok
  refine ⟨_, h, F, .int m, rfl, ?_, q _ _ H ⟨m, rfl⟩ a.ok (Same.refl _) (.int m)⟩
  have g := DGet.k (k := (Sum.inr "marks" : Key)) hF
  exact g
theorem s3_marks {D : Ends} {H : Hp} (a : At U n M H) (hn : n + k ≤ most) (f : Fr U F tf ln) (hi : σ[i]? = some (some (.ref F))) (h : E3 K U M k te σ (fun d => ∃ m : Int, d = .int m)) (q : ∀ H', At U (n + k) M H' → Same (U.view H) (U.view H') → D.nx σ H') : sDPut (tVar i) (tC (.str "marks")) te D σ H :=
  h n H a hn _ fun v d H1 r ok1 s1 d1 => by
    obtain ⟨m, rfl⟩ := r
    cases d1
    obtain ⟨m0, hF⟩ := f.get ok1
    refine ⟨_, hi, F, _, rfl, DPut.k (k := (Sum.inr "marks" : Key)) hF (by show 3 < sizeLine; decide), ?_⟩
    obtain ⟨ok2, s2⟩ := f.set (m := m) ok1 rfl
    exact q _ ⟨ok2, a.up.trans (s1.trans s2)⟩ (s1.trans s2)
/-! tuples put together -/
theorem r1_catA {xs ys : List PyData} (z : xs.length + ys.length ≤ 100000) : R1 K U (rCatA K) (.tuple xs) (.tuple ys) (.tuple (xs ++ ys)) := fun n H x y ok h1 h2 Q q => by
  cases h1 with
  | tup f1 a1 =>
    cases h2 with
    | tup f2 a2 =>
      refine ⟨_, _, _, _, rfl, rfl, seqT (U.le _) f1, seqT (U.le _) f2, thousand (by rw [a1.len, a2.len]; exact z), fun e => ?_, fun _ e => ?_, fun _ _ p np => ?_⟩
      · subst e
        cases a1
        exact q _ H ok (Same.refl _) (.tup f2 a2)
      · subst e
        cases a2
        rw [List.append_nil] at q
        exact q _ H ok (Same.refl _) (.tup f1 a1)
      · obtain ⟨ok2, s2, f2, _⟩ := U.new (o := .tup _) ok np rfl
        exact q _ _ ok2 s2 (.tup (.inl (.inl f2)) ((a1.app a2).same s2))
/-! two that draw, one behind the other -/
theorem e3_op {r : R2} {f : PyData → PyData → PyData} (ha : E3 K U M k1 ta σ R) (hb : E3 K U M k2 tb σ S) (hr : ∀ d e, R d → S e → R1 K U r d e (f d e)) : E3 K U M (k1 + k2) (tOp r ta tb) σ (fun x => ∃ d e, R d ∧ S e ∧ x = f d e) := fun n H a hn Q q =>
  ha n H a (by omega) _ fun x d H1 r1 ok1 s1 d1 => hb (n + k1) H1 ⟨ok1, a.up.trans s1⟩ (by omega) _ fun y e H2 r2 ok2 s2 e2 => hr d e r1 r2 _ H2 x y ok2 (d1.same s2) e2 Q fun v H3 ok3 s3 e3 => q v _ H3 ⟨d, e, r1, r2, rfl⟩ (by rw [← Nat.add_assoc]; exact ok3) ((s1.trans s2).trans s3) e3
theorem e3_tup (h : A3 K U M k t σ (Each m R)) (z : m ≤ 100000) : E3 K U M k (tTup t) σ (fun d => ∃ ds, d = .tuple ds ∧ Each m R ds) := fun n H a hn Q q =>
  h n H a hn _ fun vs ds H1 r ok1 s1 d1 => ⟨thousand (by rw [d1.len, r.1]; exact z), fun p np => by
    obtain ⟨ok2, s2, f2, _⟩ := U.new (o := .tup vs) ok1 np rfl
    exact q _ _ _ ⟨ds, rfl, r⟩ ok2 (s1.trans s2) (.tup (.inl (.inl f2)) (d1.same s2))⟩
theorem a3_cons1' {k2 m : Nat} {d : PyData} (h : E1 K U M te σ d) (r : R d) (hs : A3 K U M k2 t σ (Each m R)) : A3 K U M k2 (tCons te t) σ (Each (m + 1) R) := fun n H a hn Q q => by
  refine a3_cons (k1 := 0) (h.e3 r) hs n H a (by omega) Q ?_
  rw [Nat.zero_add]
  exact q
/-- int(a == b) -/
theorem e3_int1 (h : E3 K U M k te σ (fun d => ∃ b, d = .bool b)) : E3 K U M k (tCB (fun xs H Q => (∃ i, xs = [.int i] ∧ Q (.int i) H) ∨ ∃ k, xs = [.bl k] ∧ Q (.int (if k then 1 else 0)) H) (tCons te tNil)) σ (fun d => d = .int 0 ∨ d = .int 1) := fun n H a hn Q q => h n H a hn _ fun v d H1 r ok1 s1 d1 => by
  obtain ⟨b, rfl⟩ := r
  cases d1
  refine .inr ⟨b, rfl, ?_⟩
  cases b with
  | true => exact q _ _ H1 (.inr rfl) ok1 s1 (.int 1)
  | false => exact q _ _ H1 (.inl rfl) ok1 s1 (.int 0)
end
/-! what a drawn tree weighs -/
mutual
def fineB : PyData → Bool
  | .str x => decide (x.length ≤ 100000) && PyData.strOk x
  | .tuple xs => fineBs xs
  | .none => true
  | .bool _ => true
  | .int _ => true
  | .list _ => true
  | .dict _ => true
def fineBs : List PyData → Bool
  | [] => true
  | x :: xs => fineB x && fineBs xs
end
def okt (k m : Nat) (d : PyData) : Bool := d.showable && (d.leavesShort 64 && (decide (d.depth ≤ k) && (decide (d.weight ≤ m) && fineB d)))
theorem okt_iff {k m : Nat} {d : PyData} : okt k m d = true ↔ d.showable = true ∧ d.leavesShort 64 = true ∧ d.depth ≤ k ∧ d.weight ≤ m ∧ fineB d = true := by simp [okt]
theorem okt_more {k m k' m' : Nat} {d : PyData} (h : okt k m d = true) (hk : k ≤ k') (hm : m ≤ m') : okt k' m' d = true := by
  rw [okt_iff] at h ⊢
  exact ⟨h.1, h.2.1, Nat.le_trans h.2.2.1 hk, Nat.le_trans h.2.2.2.1 hm, h.2.2.2.2⟩
theorem okt_fit {k m : Nat} {d : PyData} (h : okt k m d = true) (hk : k ≤ 60) (hm : m ≤ 220000) : Fit d := by
  rw [okt_iff] at h
  refine ⟨h.1, Nat.le_trans h.2.2.1 hk, ?_⟩
  have a := PyData.shown_le 64 (by decide) d h.2.1
  have b : (15000000 : Nat) ≤ sizeLine := by decide
  omega
/-- what a list of them is -/
def oks (k m : Nat) (ds : List PyData) : Prop := PyData.showableAll ds = true ∧ PyData.leavesShortAll 64 ds = true ∧ PyData.depthAll ds ≤ k ∧ PyData.weightAll ds ≤ m ∧ fineBs ds = true
theorem oks_tup {k m : Nat} {ds : List PyData} (h : oks k m ds) : okt (k + 1) m (.tuple ds) = true := by
  rw [okt_iff]
  simp only [PyData.showable, PyData.leavesShort, PyData.depth, PyData.weight, fineB]
  exact ⟨h.1, h.2.1, Nat.add_le_add_right h.2.2.1 1, h.2.2.2.1, h.2.2.2.2⟩
theorem oks_lst {k m : Nat} {ds : List PyData} (h : oks k m ds) : okt (k + 1) m (.list ds) = true := by
  rw [okt_iff]
  simp only [PyData.showable, PyData.leavesShort, PyData.depth, PyData.weight, fineB]
  exact ⟨h.1, h.2.1, Nat.add_le_add_right h.2.2.1 1, h.2.2.2.1, trivial⟩
theorem tup_oks {k m : Nat} {ds : List PyData} (h : okt k m (.tuple ds) = true) : 1 ≤ k ∧ oks (k - 1) m ds := by
  rw [okt_iff] at h
  simp only [PyData.showable, PyData.leavesShort, PyData.depth, PyData.weight, fineB] at h
  obtain ⟨a, b, c, d, e⟩ := h
  exact ⟨by omega, a, b, by omega, d, e⟩
theorem oks_nil {k m : Nat} : oks k m [] := ⟨rfl, rfl, Nat.zero_le _, Nat.zero_le _, rfl⟩
theorem oks_cons {k m1 m2 m : Nat} {d : PyData} {ds : List PyData} (h : okt k m1 d = true) (hs : oks k m2 ds) (l : m1 + 1 + m2 ≤ m) : oks k m (d :: ds) := by
  rw [okt_iff] at h
  obtain ⟨a1, a2, a3, a4, a5⟩ := h
  obtain ⟨b1, b2, b3, b4, b5⟩ := hs
  refine ⟨by simp [PyData.showableAll, a1, b1], by simp [PyData.leavesShortAll, a2, b2], by simp only [PyData.depthAll]; omega, by simp only [PyData.weightAll]; omega, by simp [fineBs, a5, b5]⟩
theorem cons_oks {k m : Nat} {d : PyData} {ds : List PyData} (h : oks k m (d :: ds)) : okt k (PyData.weight d) d = true ∧ oks k (PyData.weightAll ds) ds ∧ PyData.weight d + 1 + PyData.weightAll ds ≤ m := by
  obtain ⟨b1, b2, b3, b4, b5⟩ := h
  simp only [PyData.showableAll, Bool.and_eq_true] at b1
  simp only [PyData.leavesShortAll, Bool.and_eq_true] at b2
  simp only [PyData.depthAll] at b3
  simp only [PyData.weightAll] at b4
  simp only [fineBs, Bool.and_eq_true] at b5
  exact ⟨okt_iff.mpr ⟨b1.1, b2.1, by omega, Nat.le_refl _, b5.1⟩, ⟨b1.2, b2.2, by omega, Nat.le_refl _, b5.2⟩, b4⟩
theorem oks_more {k m k' m' : Nat} {ds : List PyData} (h : oks k m ds) (hk : k ≤ k') (hm : m ≤ m') : oks k' m' ds := ⟨h.1, h.2.1, Nat.le_trans h.2.2.1 hk, Nat.le_trans h.2.2.2.1 hm, h.2.2.2.2⟩
theorem oks_app {k m1 m2 : Nat} : ∀ {xs ys : List PyData}, oks k m1 xs → oks k m2 ys → oks k (m1 + m2) (xs ++ ys)
  | [], ys, _, h => oks_more h (Nat.le_refl _) (by omega)
  | x :: xs, ys, h, h2 => by
    obtain ⟨a, b, c⟩ := cons_oks h
    exact oks_cons a (oks_app b h2) (by omega)
theorem app_oks {k m : Nat} : ∀ {xs ys : List PyData}, oks k m (xs ++ ys) → oks k (PyData.weightAll xs) xs ∧ oks k (PyData.weightAll ys) ys ∧ PyData.weightAll xs + PyData.weightAll ys ≤ m
  | [], ys, h => ⟨oks_nil, oks_more ⟨h.1, h.2.1, h.2.2.1, Nat.le_refl _, h.2.2.2.2⟩ (Nat.le_refl _) (Nat.le_refl _), by simpa [PyData.weightAll] using h.2.2.2.1⟩
  | x :: xs, ys, h => by
    obtain ⟨a, b, c⟩ := cons_oks h
    obtain ⟨d, e, f⟩ := app_oks b
    have w : PyData.weightAll (x :: xs) = PyData.weight x + 1 + PyData.weightAll xs := by simp only [PyData.weightAll]
    exact ⟨oks_cons a d (by omega), e, by omega⟩
theorem oks_each {k m : Nat} : ∀ {ds : List PyData}, (∀ d ∈ ds, okt k m d = true) → oks k (ds.length * (m + 1)) ds
  | [], _ => oks_nil
  | d :: ds, h => by
    refine oks_cons (h d (List.mem_cons_self ..)) (oks_each fun e he => h e (List.mem_cons_of_mem _ he)) ?_
    rw [List.length_cons, Nat.add_mul]
    omega
theorem okt_int {i : Int} (h : i.natAbs ≤ 10 ^ 12) : okt 0 41 (.int i) = true := by
  have h3 : i.natAbs.log2 < 40 ∨ i.natAbs = 0 := by
    by_cases z : i.natAbs = 0
    · exact .inr z
    · exact .inl ((Nat.log2_lt z).mpr (Nat.lt_of_le_of_lt h (by decide)))
  have h4 : i.natAbs.log2 < 40 := by
    rcases h3 with z | z
    · exact z
    · rw [z]
      decide
  rw [okt_iff]
  refine ⟨?_, ?_, Nat.le_refl _, ?_, rfl⟩
  · simp only [PyData.showable, decide_eq_true_eq]
    omega
  · have e := int_text_length_le10 (a := i) (k := 13) (by decide) (Nat.lt_of_le_of_lt h (by decide))
    simp only [PyData.leavesShort, decide_eq_true_eq]
    show (Str.ofString (toString i)).length ≤ 64
    rw [PySem.ofString_length]
    omega
  · simp only [PyData.weight]
    split <;> omega
section
variable {K : PySem.W.Frag} {U : Wo} {W : Wd} {M : Hp} {σ : L2.St} {n k k1 k2 m : Nat} {te ta tb : TE} {t : TA} {R S : PyData → Prop}
/-- [e for x in xs], e draws -/
theorem e3_lcC {C : Wo → Prop} (cU : C U) (cH : ∀ (U : Wo) D o, C U → C (U.hide D o)) {wi : TI} {j k0 m : Nat} {vs : List Nat} {P : List PyData → Prop} (h : I3 K U M k0 wi σ P) (z : ∀ ds, P ds → ds.length ≤ m) (z1 : m ≤ 100000) (hw : ∀ x, wipe ((wipe σ vs).set j (some x)) vs = wipe σ vs)
    (he : ∀ (U' : Wo) M' v, C U' → Same M M' → E3 K U' M' k te ((wipe σ vs).set j (some v)) R) :
    E3 K U M (k0 + m * k) (tLc wi (gName j) tYes te vs) σ (fun d => ∃ ds es, P ds ∧ d = .list es ∧ es.length = ds.length ∧ ∀ e ∈ es, R e) := fun n H a hn Q q => h n H a (by omega) _ fun J ds H1 p ok1 s1 w => by
  intro D nD
  have hm : ds.length ≤ m := z ds p
  have a1 : Same M (U.view H1) := a.up.trans s1
  have nD0 : U.view H1 D = none := by
    cases e : U.view H1 D with
    | none => rfl
    | some x =>
      rw [U.le _ _ _ e] at nD
      cases nD
  have off : Same (U.view H1) (hideV D (U.view H1)) := fun b x e => hide_at e (fun q => by
    rw [q, nD0] at e
    cases e)
  refine lc_it w (fun i H' => U.ok (n + k0 + i * k) H' ∧ Same (U.view H1) (hideV D (U.view H')) ∧ ∃ acc es, U.view H' D = some (.lst acc) ∧ DdAll K (hideV D (U.view H')) acc es ∧ es.length = i ∧ ∀ e ∈ es, R e) ?_ (fun i H' _ z => z.2.1.trans (hide_le _ _)) ?_ ?_
  · obtain ⟨ok2, s2, f2, _⟩ := U.new (o := .lst []) ok1 nD rfl
    exact ⟨by rw [Nat.zero_mul]; exact ok2, off.trans (hide_same s2), [], [], f2, .nil, rfl, fun _ h => nomatch h⟩
  · rintro i x H2 H3 hi ⟨ok2, s2, acc, es, f2, da, el, er⟩ ⟨rfl, d, hd, dx⟩
    have hik : i * k + k ≤ m * k := by
      have := Nat.mul_le_mul_right k (show i + 1 ≤ m by omega)
      rwa [Nat.add_mul, Nat.one_mul] at this
    refine ⟨hw x, ?_⟩
    refine rd_yes (L2.iteT ?_)
    refine he (U.hide D (.lst acc)) (U.view H1) x (cH _ D _ cU) a1 _ H3 ⟨⟨ok2, f2⟩, s2⟩ (by omega) _ fun y e H5 r5 ok5 s5 dy => ?_
    have hl : acc.length ≤ 100000 := by
      rw [da.len, el]
      omega
    refine ⟨acc, U.le _ _ _ ok5.2, Nat.lt_of_le_of_lt hl (by decide), ?_⟩
    obtain ⟨ok6, f6, o6⟩ := U.own (o := .lst (acc ++ [y])) ok5.1 ok5.2 rfl
    have k6 : Same (hideV D (U.view H5)) (hideV D (U.view (upd H5 D (.lst (acc ++ [y]))))) := fun b u e => hide_at (o6 b u (hide_of e).1 (hide_of e).2) (hide_of e).1
    refine ⟨?_, (s2.trans s5).trans k6, _, es ++ [e], f6, (da.same (s5.trans k6)).app (.cons (dy.same k6) .nil), ?_, ?_⟩
    · rw [Nat.add_mul, Nat.one_mul, ← Nat.add_assoc]
      exact ok6
    · rw [List.length_append, el] <;> rfl
    · intro e' he'
      rcases List.mem_append.mp he' with h1 | h1
      · exact er e' h1
      · rw [List.mem_singleton.mp h1]
        exact r5
  · rintro H2 ⟨ok2, s2, acc, es, f2, da, el, er⟩
    have hik := Nat.mul_le_mul_right k hm
    exact q _ _ _ ⟨ds, es, p, rfl, el, er⟩ (U.mono ok2 (by omega)) (s1.trans (s2.trans (hide_le _ _))) (.lst f2 (da.same (hide_le _ _)))
theorem a3_oks {kd m1 m2 k2 : Nat} (h : E3 K U M k1 te σ (fun d => okt kd m1 d = true)) (hs : A3 K U M k2 t σ (oks kd m2)) : A3 K U M (k1 + k2) (tCons te t) σ (oks kd (m1 + 1 + m2)) := fun n H a hn Q q =>
  h n H a (by omega) _ fun v d H1 r1 ok1 s1 d1 => hs (n + k1) H1 ⟨ok1, a.up.trans s1⟩ (by omega) _ fun vs ds H2 r2 ok2 s2 d2 => q _ (d :: ds) H2
    (oks_cons r1 r2 (Nat.le_refl _)) (by rw [← Nat.add_assoc]; exact ok2) (s1.trans s2) (.cons (d1.same s2) d2)
theorem a3_oks1 {kd m1 m2 k2 : Nat} {d : PyData} (h : E1 K U M te σ d) (r : okt kd m1 d = true) (hs : A3 K U M k2 t σ (oks kd m2)) : A3 K U M k2 (tCons te t) σ (oks kd (m1 + 1 + m2)) := fun n H a hn Q q => by
  refine a3_oks (k1 := 0) (h.e3 r) hs n H a (by omega) Q ?_
  rw [Nat.zero_add]
  exact q
theorem a3_oks0 {kd : Nat} : A3 K U M 0 tNil σ (oks kd 0) := fun n H a _ Q q => q [] [] H oks_nil a.ok (Same.refl _) .nil
theorem len_weight : ∀ ds : List PyData, ds.length ≤ PyData.weightAll ds
  | [] => Nat.zero_le _
  | d :: ds => by
    have := len_weight ds
    simp only [PyData.weightAll, List.length_cons]
    omega
theorem e3_tupO {kd m : Nat} (h : A3 K U M k t σ (oks kd m)) (z : m ≤ 100000) : E3 K U M k (tTup t) σ (fun d => okt (kd + 1) m d = true) := fun n H a hn Q q =>
  h n H a hn _ fun vs ds H1 r ok1 s1 d1 => ⟨thousand (by
    have := len_weight ds
    have := r.2.2.2.1
    rw [d1.len]
    omega), fun p np => by
    obtain ⟨ok2, s2, f2, _⟩ := U.new (o := .tup vs) ok1 np rfl
    exact q _ _ _ (oks_tup r) ok2 (s1.trans s2) (.tup (.inl (.inl f2)) (d1.same s2))⟩
end
end Mw
/-! ### sorted, told exactly: ints and texts of a list or a tuple, tuples of ints of a list of any length -/
namespace Mw
open PySem PySem.Spec PyProof PyProof.Rows L2
/-- there is one ascending order -/
theorem srt_uniq {α : Type} (r : α → Int) : ∀ {l m : List α}, l.Perm m → l.Pairwise (fun x y => r x ≤ r y) → m.Pairwise (fun x y => r x ≤ r y) → (∀ x ∈ l, ∀ y ∈ l, r x = r y → x = y) → l = m
  | [], m, h, _, _, _ => (List.Perm.eq_nil h.symm).symm
  | x :: l, [], h, _, _, _ => absurd h.length_eq (by simp)
  | x :: l, y :: m, h, hl, hm, inj => by
    have hy : y ∈ x :: l := h.mem_iff.mpr (List.mem_cons_self ..)
    have h1 : r x ≤ r y := by
      rcases List.mem_cons.mp hy with e | e
      · rw [e]
        exact Int.le_refl _
      · exact (List.pairwise_cons.mp hl).1 y e
    have h2 : r y ≤ r x := by
      rcases List.mem_cons.mp (h.mem_iff.mp (List.mem_cons_self (a := x) (l := l))) with e | e
      · rw [e]
        exact Int.le_refl _
      · exact (List.pairwise_cons.mp hm).1 x e
    have e := inj x (List.mem_cons_self ..) y hy (by omega)
    subst e
    rw [srt_uniq r h.cons_inv (List.pairwise_cons.mp hl).2 (List.pairwise_cons.mp hm).2 fun a ha b hb => inj a (List.mem_cons_of_mem _ ha) b (List.mem_cons_of_mem _ hb)]
theorem ints_uniq {l m : List Int} (h : l.Perm m) (h1 : l.Pairwise (· ≤ ·)) (h2 : m.Pairwise (· ≤ ·)) : l = m := srt_uniq (fun x => x) h h1 h2 fun _ _ _ _ e => e
section
variable {prog : Program} {w : World} {A : Around} {E : Value → Shared → Prop} {s : Shared}
/-- sorted of a tuple of ints -/
theorem sorted_tupI {l : Addr} {vs : List Value} {ns : List Int} {Q : Value → Shared → Prop} (hl : s.heap.IsTuple l vs.toArray) (hI : IntsAre vs ns) (hz : vs.length ≤ sizeLine)
    (h : ∀ (out : Array Value) (ms : List Int), IntsAre out.toList ms → ms.Perm ns → ms.Pairwise (· ≤ ·) → Q (.ref (s.heap.objs.size + 1)) { s with heap := sortedAll s.heap vs out }) :
    wpAny (model prog w) A (call (.builtin "sorted") [.ref l]) Q E s := by
  refine Calls.call_function_entry kind_sorted plain_sorted entry_sorted (args_sorted1 _) ?_
  unfold Builtin.«sorted»
  refine wpAny_bind (m := checkCount "sorted" 1 1 _) (wpAny_pure ?_)
  refine wpAny_bind (collect_tupM hl ?_ hz)
  refine wpAny_bind (wpAny_newList ?_ hz)
  have size : ((s.heap.push (seqObj "list" #[] 0)).update s.heap.objs.size (Obj.mapSeq (· ++ vs.toArray))).objs.size = s.heap.objs.size + 1 := by
    rw [Heap.size_update, size_push']
  have here : (((s.heap.push (seqObj "list" #[] 0)).update s.heap.objs.size (Obj.mapSeq (· ++ vs.toArray))).push (seqObj "list" vs.toArray 0)).get? (s.heap.objs.size + 1) = some (seqObj "list" vs.toArray 0) := by
    rw [← size]
    exact Heap.get?_push_size _ rfl
  show wpAny _ _ _ _ _ { s with heap := ((s.heap.push (seqObj "list" #[] 0)).update s.heap.objs.size (Obj.mapSeq (· ++ vs.toArray))).push (seqObj "list" vs.toArray 0) }
  rw [size]
  refine wpAny_bind (wpAny_holding (wpAny_call_entry slot_list_sort ⟨_, here, rfl⟩ entry_list_sort (SrtO.list_sort_ord SrtO.swo_int here hz (fun h2 => SrtO.ints_sortable hI h2) fun out h1 h2 => ⟨_, rfl, ?_⟩) (args_list_sort _)))
  obtain ⟨k1, k2, k3⟩ := SrtO.ints_out hI h1 h2
  exact wpAny_pure ⟨_, rfl, h out.toArray _ k1 k2 k3⟩
end
/-- sorted of a list or a tuple of ints -/
def rSrtI (K : PySem.W.Frag) : List V → Hp → VK → Prop := fun vs H Q => ∃ (a : Addr) (ns : List Int), vs = [V.ref a] ∧ (SqL K H a (ns.map V.int) ∨ SqT K H a (ns.map V.int)) ∧ ns.length ≤ sizeLine ∧
  ∀ (ms : List Int) (p : Addr), ms.Perm ns → ms.Pairwise (· ≤ ·) → H p = none → Q (.ref p) (upd H p (.lst (ms.map V.int)))
theorem cr_srtI {X : Cx} : CallR X (.builtin "sorted") (rSrtI X.K) := by
  intro pins s σ H vs us Q I r h
  obtain ⟨a, ns, rfl, hs, hz, q⟩ := h
  rcases hs with hs | hs
  · exact cr_sortedI pins s σ H _ us Q I r ⟨a, ns, rfl, hs, fun ms p h1 h2 h3 => q ms p h1 h2 h3⟩
  · obtain ⟨its, rv, hl, _⟩ := I.tuple hs
    rw [Vals.ref1 r]
    have len := rv.length
    rw [List.length_map] at len
    refine sorted_tupI hl rv.ints (by rw [← len]; exact hz) fun out ms h1 h2 h3 => ?_
    obtain ⟨ep, he⟩ := sortedAll_at s.heap its out
    have fits : (ms.map V.int).length ≤ sizeLine := by
      rw [List.length_map, h2.length_eq]
      exact hz
    exact ⟨.ref _, upd H (s.heap.objs.size + 1) (.lst (ms.map V.int)), I.laid (t' := s.toks) (fun _ _ => sortedAll_old) (Nat.le_succ _) ⟨fits, out.toList, ep, vals_of_ints h1, he⟩, rfl, q ms _ h2 h3 (I.hok.fresh (Nat.le_succ _))⟩
/-- sorted of a list or a tuple of texts -/
def rSrtS (K : PySem.W.Frag) : List V → Hp → VK → Prop := fun vs H Q => ∃ (a : Addr) (xs : List Str), vs = [V.ref a] ∧ (SqL K H a (xs.map V.str) ∨ SqT K H a (xs.map V.str)) ∧ xs.length < 64 ∧
  ∀ (ys : List Str) (p : Addr), ys.Perm xs → sortedS ys = true → H p = none → Q (.ref p) (upd H p (.lst (ys.map V.str)))
theorem cr_srtS {X : Cx} : CallR X (.builtin "sorted") (rSrtS X.K) := by
  intro pins s σ H vs us Q I r h
  obtain ⟨a, xs, rfl, hs, h64, q⟩ := h
  rcases hs with hs | hs
  · exact cr_sortedS pins s σ H _ us Q I r ⟨a, xs, rfl, hs, h64, fun ys p h1 h2 h3 => q ys p h1 h2 h3⟩
  · obtain ⟨its, rv, hl, _⟩ := I.tuple hs
    rw [Vals.ref1 r]
    have len := rv.length
    rw [List.length_map] at len
    refine sorted_tupM hl rv.strs (by rw [← len]; exact h64) fun out ys h1 h2 h3 => ?_
    obtain ⟨ep, he⟩ := sortedAll_at s.heap its out
    have fits : (ys.map V.str).length ≤ sizeLine := by
      rw [List.length_map, h2.length_eq]
      exact small64 h64
    exact ⟨.ref _, upd H (s.heap.objs.size + 1) (.lst (ys.map V.str)), I.laid (t' := s.toks) (fun _ _ => sortedAll_old) (Nat.le_succ _) ⟨fits, out.toList, ep, vals_of_strs h1, he⟩, rfl, q ys _ h2 h3 (I.hok.fresh (Nat.le_succ _))⟩
/-! tuples of ints -/
theorem tups_sortable {prog : Program} {w : World} {A : Around} {s : Shared} {a : Addr} {vs : List Value} {d : Nat} {B : Int} (hd : 1 ≤ d) (h2 : 2 ≤ vs.length) (x : TS.TupsOk s.heap d B vs) (ha : ∀ o, s.heap.get? a = some o → o.cls ≠ .type "tuple") :
    SrtO.SortableO prog w A s a vs (fun u v => decide (TS.code B (TS.intsOf s.heap u) < TS.code B (TS.intsOf s.heap v))) := by
  intro h' keep
  have k : ∀ b o, s.heap.get? b = some o → o.cls = .type "tuple" → h'.get? b = some o := fun b o e c => keep b o (fun z => by subst z; exact ha o e c) e
  have x' : TS.TupsOk h' d B vs := x.keeps k
  obtain ⟨fs, kt, hl, hi⟩ := TS.firsts_of hd vs x'
  refine ⟨tuples' (Value.type "int" != Value.type "tuple"), fun Q E hq => PySem.W.kat_kind (T := Value.type "int") kt (by omega) (fun f hf => ?_) rfl hq, ?_⟩
  · obtain ⟨n, t, rfl⟩ := hi f hf
    exact PySem.W.Looks.of_pure rfl
  · intro p q hp hq
    obtain ⟨ns, tp, lp, bp⟩ := x' _ hp
    obtain ⟨ms, tq, lq, bq⟩ := x' _ hq
    obtain ⟨ns0, tp0, _⟩ := x _ hp
    obtain ⟨ms0, tq0, _⟩ := x _ hq
    have ep : TS.intsOf s.heap p.1 = ns := by
      rw [tp0.ints]
      exact (tp0.keeps k).ints.symm.trans tp.ints
    have eq' : TS.intsOf s.heap q.1 = ms := by
      rw [tq0.ints]
      exact (tq0.keeps k).ints.symm.trans tq.ints
    show wpAny (model prog w) A (keyLt' (tuples' (Value.type "int" != Value.type "tuple")) p.1 q.1) (fun r s' => s' = { s with heap := h' } ∧ r = decide (TS.code B (TS.intsOf s.heap p.1) < TS.code B (TS.intsOf s.heap q.1))) (fun _ _ => False) { s with heap := h' }
    rw [ep, eq']
    obtain ⟨a1, xs, e1, ⟨o, ho, hc, n, hdt⟩, i⟩ := tp
    obtain ⟨a2, ys, e2, ⟨o', ho', hc', n', hdt'⟩, i'⟩ := tq
    rw [e1, e2]
    refine PySem.W.kat_lt (s := { s with heap := h' }) ho hdt ho' hdt' ?_
    have sz : decide (xs.size < ys.size) = false := by
      have l1 := i.length
      have l2 := i'.length
      rw [Array.length_toList] at l1 l2
      exact decide_eq_false (by omega)
    rw [sz]
    exact TS.lex_ints 0 i i' (by omega) bp bq ⟨rfl, rfl⟩
theorem swo_rank {α : Type} (r : α → Int) : SrtO.Swo (fun u v : α => decide (r u < r v)) := by
  refine ⟨fun x y h => ?_, fun x y z h1 h2 => ?_⟩
  · have a := of_decide_eq_true h
    exact decide_eq_false (by omega)
  · have a := of_decide_eq_false h1
    have b := of_decide_eq_false h2
    exact decide_eq_false (by omega)
/-- sorted of a list of tuples of d ints, any number of them -/
def rSrtT (K : PySem.W.Frag) (d : Nat) (B : Int) : List V → Hp → VK → Prop := fun vs H Q => ∃ (a : Addr) (xs : List V), vs = [V.ref a] ∧ SqL K H a xs ∧ (∀ x ∈ xs, ∃ ns, TupI K H x ns ∧ ns.length = d ∧ TS.Bd B ns) ∧
  ∀ (ys : List V) (p : Addr), ys.Perm xs → ys.Pairwise (fun x y => ∀ n m, TupI K H x n → TupI K H y m → TS.code B n ≤ TS.code B m) → H p = none → Q (.ref p) (upd H p (.lst ys))
theorem cr_srtT {X : Cx} {d : Nat} {B : Int} (hd : 1 ≤ d) : CallR X (.builtin "sorted") (rSrtT X.K d B) := by
  intro pins s σ H vs us Q I r h
  obtain ⟨a, xs, rfl, hs, hx, q⟩ := h
  obtain ⟨its, rv, hl, hz⟩ := I.list hs
  rw [Vals.ref1 r]
  obtain ⟨e1, e2⟩ := bkV_refs rv fun x m => by
    obtain ⟨ns, ⟨t, e, _⟩, _⟩ := hx x m
    exact ⟨t, e⟩
  have ok : TS.TupsOk s.heap d B its := fun v hv => by
    obtain ⟨t, rfl⟩ := e2 v hv
    have hm : V.ref t ∈ xs := by
      rw [e1]
      exact List.mem_map.mpr ⟨_, hv, rfl⟩
    obtain ⟨ns, ⟨t', e, ht⟩, hn, hb⟩ := hx _ hm
    cases e
    exact ⟨ns, tupI_raw I ht, hn, hb⟩
  refine SrtO.sorted_ord (ltv := fun u v => decide (TS.code B (TS.intsOf s.heap u) < TS.code B (TS.intsOf s.heap v))) (swo_rank fun u => TS.code B (TS.intsOf s.heap u)) hl.isList (by rw [← rv.length]; exact hz) (fun h2 h₁ a' ha kk => ?_) fun out h1 h2 => ?_
  · have z := tups_sortable (prog := X.prog) (w := X.w) (A := X.A.in1.in1) (s := { s with heap := h₁ }) (a := a') (vs := its) hd h2 (ok.keeps fun b o e _ => (kk b o e).2) (fun o e => by
      have e' : some o = some (seqObj "list" its.toArray 0) := e.symm.trans ha
      cases e'
      intro c
      exact absurd (Value.type.inj c) (by decide))
    have same : ∀ v ∈ its, TS.intsOf h₁ v = TS.intsOf s.heap v := fun v hv => by
      obtain ⟨ns, t, _⟩ := ok v hv
      rw [t.ints, (t.keeps fun b o e _ => (kk b o e).2).ints]
    intro h' keep
    obtain ⟨κ, z1, z2⟩ := z h' keep
    refine ⟨κ, z1, fun p q hp hq => ?_⟩
    have z3 := z2 p q hp hq
    show wpAny (model X.prog X.w) _ (keyLt' κ p.1 q.1) (fun r s' => s' = _ ∧ r = decide (TS.code B (TS.intsOf s.heap p.1) < TS.code B (TS.intsOf s.heap q.1))) (fun _ _ => False) _
    rw [← same _ hp, ← same _ hq]
    exact z3
  · obtain ⟨ep, he'⟩ := PyProof.Rows.sortedAll_at s.heap its out.toArray
    have h3 : ∀ u ∈ out, ∃ a, u = Value.ref a := fun u hu => e2 u (h2.perm.mem_iff.mp hu)
    have hp : (out.map bkV).Perm xs := by
      rw [e1]
      exact h2.perm.map bkV
    have hlen : (out.map bkV).length ≤ sizeLine := by
      rw [hp.length_eq]
      exact hz
    refine ⟨.ref _, upd H (s.heap.objs.size + 1) (.lst (out.map bkV)), I.laid (t' := s.toks) (fun _ _ => PyProof.Rows.sortedAll_old) (Nat.le_succ _) ⟨hlen, out, ep, bkV_vals h3, he'⟩, rfl, q _ _ hp ?_ (I.hok.fresh (Nat.le_succ _))⟩
    rw [List.pairwise_map]
    refine List.Pairwise.imp (fun {u v} huv n m hn hm => ?_) h1
    obtain ⟨t, et, ht⟩ := hn
    obtain ⟨t', et', ht'⟩ := hm
    have eu := bkV_ref et
    have ev := bkV_ref et'
    have i1 : TS.intsOf s.heap u = n := by
      rw [eu]
      exact (tupI_raw I ht).ints
    have i2 : TS.intsOf s.heap v = m := by
      rw [ev]
      exact (tupI_raw I ht').ints
    have z := of_decide_eq_false huv
    rw [i1, i2] at z
    omega
/-! texts by a rank -/
theorem sortedS_rank {r : Str → Int} {D : List Str} (hr : ∀ x ∈ D, ∀ y ∈ D, ltCps x.cps.toList y.cps.toList = decide (r x < r y)) : ∀ {l : List Str}, (∀ x ∈ l, x ∈ D) → sortedS l = true → l.Pairwise (fun x y => r x ≤ r y)
  | [], _, _ => .nil
  | x :: l, hD, h => by
    have go : ∀ (p : Str) (l : List Str), p ∈ D → (∀ x ∈ l, x ∈ D) → risingS p l = true → (p :: l).Pairwise (fun x y => r x ≤ r y) := fun p l => by
      induction l generalizing p with
      | nil => exact fun _ _ _ => List.pairwise_singleton _ _
      | cons y l ih =>
        intro hp hl h
        have h' : (!ltCps y.cps.toList p.cps.toList && risingS y l) = true := h
        rw [Bool.and_eq_true] at h'
        have hy := hl y (List.mem_cons_self ..)
        have t := ih y hy (fun x hx => hl x (List.mem_cons_of_mem _ hx)) h'.2
        have le : r p ≤ r y := by
          have z := h'.1
          rw [hr y hy p hp] at z
          have z' : decide (r y < r p) = false := by simpa using z
          have := of_decide_eq_false z'
          omega
        refine List.pairwise_cons.mpr ⟨fun z hz => ?_, t⟩
        rcases List.mem_cons.mp hz with e | hz
        · rw [e]
          exact le
        · exact Int.le_trans le ((List.pairwise_cons.mp t).1 z hz)
    exact go x l (hD x (List.mem_cons_self ..)) (fun y hy => hD y (List.mem_cons_of_mem _ hy)) h
end Mw
/-! ### spares and samples, as lists -/
namespace Mw
open PySem PySem.Spec PyProof.Rows L2
/-! numbers that are not named -/
def nonm (ds : List Int) (n : Nat) : List Int := ((List.range n).map fun i => Int.ofNat i).filter fun i => !ds.contains i
theorem nonm_succ (ds : List Int) (n : Nat) : nonm ds (n + 1) = nonm ds n ++ (if ds.contains (Int.ofNat n) = true then [] else [Int.ofNat n]) := by
  unfold nonm
  rw [List.range_succ, List.map_append, List.filter_append]
  congr 1
  show List.filter _ [Int.ofNat n] = _
  rw [List.filter_cons]
  cases h : ds.contains (Int.ofNat n) <;> simp
theorem nonm_pre (ds : List Int) (n : Nat) : ∀ k, ∃ r, nonm ds (n + k) = nonm ds n ++ r
  | 0 => ⟨[], by rw [List.append_nil]; rfl⟩
  | k + 1 => by
    obtain ⟨r, e⟩ := nonm_pre ds n k
    exact ⟨_, by rw [← Nat.add_assoc, nonm_succ, e, List.append_assoc]⟩
theorem filter_ne_len {α : Type} [DecidableEq α] (d : α) : ∀ {m : List α}, m.Nodup → m.length ≤ (m.filter fun x => !decide (x = d)).length + 1
  | [], _ => by simp
  | x :: m, h => by
    obtain ⟨h1, h2⟩ := List.nodup_cons.mp h
    rw [List.filter_cons]
    by_cases e : x = d
    · subst e
      have z : m.filter (fun y => !decide (y = x)) = m := List.filter_eq_self.mpr fun y hy => by
        have : y ≠ x := fun z => h1 (z ▸ hy)
        simp [this]
      simp [z]
    · have ih := filter_ne_len d h2
      have t : (!decide (x = d)) = true := by simp [e]
      rw [if_pos t]
      simp only [List.length_cons]
      omega
theorem filter_notin_len : ∀ (ds : List Int) {l : List Int}, l.Nodup → l.length ≤ (l.filter fun i => !ds.contains i).length + ds.length
  | [], l, h => by
    have : l.filter (fun i => !([] : List Int).contains i) = l := List.filter_eq_self.mpr fun x _ => by simp
    rw [this]
    simp
  | d :: ds, l, h => by
    have ih := filter_notin_len ds h
    have e : l.filter (fun i => !(d :: ds).contains i) = (l.filter fun i => !ds.contains i).filter fun x => !decide (x = d) := by
      rw [List.filter_filter]
      refine List.filter_congr fun x _ => ?_
      by_cases z : x = d <;> simp [z]
    have k := filter_ne_len d (h.filter fun i => !ds.contains i)
    rw [e]
    simp only [List.length_cons]
    omega
theorem nonm_len (ds : List Int) (n : Nat) : n ≤ (nonm ds n).length + ds.length := by
  have nd : ((List.range n).map fun i => Int.ofNat i).Nodup := List.Pairwise.map _ (fun a b h e => h (Int.ofNat.inj e)) List.nodup_range
  have := filter_notin_len ds nd
  rw [List.length_map, List.length_range] at this
  exact this
theorem nonm_mem {ds : List Int} {n : Nat} {x : Int} (h : x ∈ nonm ds n) : x ∉ ds ∧ 0 ≤ x ∧ x < n := by
  obtain ⟨h1, h2⟩ := List.mem_filter.mp h
  obtain ⟨i, hi, rfl⟩ := List.mem_map.mp h1
  have := List.mem_range.mp hi
  refine ⟨fun z => ?_, Int.natCast_nonneg _, ?_⟩
  · have : ds.contains (Int.ofNat i) = true := List.contains_iff_mem.mpr z
    rw [this] at h2
    cases h2
  · show (i : Int) < (n : Int)
    omega
theorem nonm_congr {ds es : List Int} (h : ∀ x, x ∈ ds ↔ x ∈ es) (n : Nat) : nonm ds n = nonm es n := by
  unfold nonm
  refine List.filter_congr fun x _ => ?_
  have : ds.contains x = es.contains x := by
    rw [Bool.eq_iff_iff, List.contains_iff_mem, List.contains_iff_mem]
    exact h x
  rw [this]
/-- the k least numbers that are not named -/
def spa (k : Nat) (ds : List Int) : List Int := (nonm ds (ds.length + k)).take k
theorem spa_perm {k : Nat} {ds es : List Int} (p : ds.Perm es) : spa k ds = spa k es := by
  unfold spa
  rw [p.length_eq, nonm_congr fun x => p.mem_iff]
theorem spa_of {k n : Nat} {ds : List Int} (h : (nonm ds n).length = k) : spa k ds = nonm ds n := by
  have l := nonm_len ds n
  obtain ⟨r, e⟩ := nonm_pre ds n (ds.length + k - n)
  unfold spa
  rw [show ds.length + k = n + (ds.length + k - n) by omega, e, List.take_append_of_le_length (by omega), ← h, List.take_length]
theorem spa_len (k : Nat) (ds : List Int) : (spa k ds).length = k := by
  unfold spa
  have := nonm_len ds (ds.length + k)
  rw [List.length_take]
  omega
theorem spa_mem {k : Nat} {ds : List Int} {x : Int} (h : x ∈ spa k ds) : x ∉ ds ∧ 0 ≤ x ∧ x < (ds.length + k : Nat) := nonm_mem (List.mem_of_mem_take h)
/-! ints, ascending -/
def srtI (xs : List Int) : List Int := xs.mergeSort fun a b => decide (a ≤ b)
theorem srtI_perm (xs : List Int) : (srtI xs).Perm xs := List.mergeSort_perm _ _
theorem srtI_asc (xs : List Int) : (srtI xs).Pairwise (· ≤ ·) := by
  have h := List.pairwise_mergeSort (le := fun a b : Int => decide (a ≤ b)) (fun a b c h1 h2 => by simp only [decide_eq_true_eq] at *; omega) (fun a b => by
    simp only [Bool.or_eq_true, decide_eq_true_eq]
    omega) xs
  exact h.imp fun {a b} h => of_decide_eq_true h
theorem srtI_eq {xs ys : List Int} (p : ys.Perm xs) (h : ys.Pairwise (· ≤ ·)) : ys = srtI xs := ints_uniq (p.trans (srtI_perm xs).symm) h (srtI_asc xs)
theorem srtI_congr {xs ys : List Int} (p : ys.Perm xs) : srtI ys = srtI xs := srtI_eq ((srtI_perm ys).trans p) (srtI_asc ys)
theorem asc_lt {l : List Int} (h : l.Pairwise (· ≤ ·)) (nd : l.Nodup) : l.Pairwise (· < ·) := by
  refine List.Pairwise.imp₂ (fun {a b} h1 h2 => ?_) h nd
  omega
/-! packets -/
def pext (ps : List (List Int)) (ns : List Int) : List (List Int) := ps.flatMap fun p => ns.map fun n => p ++ [n]
def pextL (ps : List (List Int)) (ns : List Int) : List (List Int) := ns.flatMap fun n => ps.map fun p => p ++ [n]
def samp (ds ss : List Int) : List (List Int) := ss.foldl (fun ps s => pext ps (srtI (ds ++ [s]))) [[]]
def lawf (ds ss : List Int) : List (List Int) := ss.foldl (fun ps s => pextL ps (ds ++ [s])) [[]]
theorem flatMap_swap {α β γ : Type} (f : α → β → γ) : ∀ (xs : List α) (ys : List β), (xs.flatMap fun x => ys.map (f x)).Perm (ys.flatMap fun y => xs.map fun x => f x y)
  | [], ys => by
    have : (ys.flatMap fun y => ([] : List α).map fun x => f x y) = [] := by simp
    rw [this]
    exact List.Perm.refl _
  | x :: xs, ys => by
    have ih := flatMap_swap f xs ys
    have e : ∀ ys : List β, (ys.flatMap fun y => (x :: xs).map fun x => f x y).Perm (ys.map (f x) ++ ys.flatMap fun y => xs.map fun x => f x y) := fun ys => by
      induction ys with
      | nil => exact List.Perm.refl _
      | cons y ys ih =>
        simp only [List.flatMap_cons, List.map_cons, List.cons_append]
        refine List.Perm.cons _ ?_
        refine (List.Perm.append_left _ ih).trans ?_
        rw [← List.append_assoc, ← List.append_assoc]
        exact List.Perm.append_right _ List.perm_append_comm
    rw [List.flatMap_cons]
    exact (List.Perm.append_left _ ih).trans (e ys).symm
theorem pext_perm {ps qs : List (List Int)} {ns ms : List Int} (hp : ps.Perm qs) (hn : ns.Perm ms) : (pext ps ns).Perm (pextL qs ms) := by
  have a : (pext ps ns).Perm (pextL ps ns) := flatMap_swap (fun p n => p ++ [n]) ps ns
  have b : (pextL ps ns).Perm (pextL ps ms) := List.Perm.flatMap_right _ hn
  have c : ∀ ms : List Int, (pextL ps ms).Perm (pextL qs ms) := fun ms => by
    unfold pextL
    induction ms with
    | nil => exact List.Perm.refl _
    | cons m ms ih =>
      rw [List.flatMap_cons, List.flatMap_cons]
      exact (hp.map _).append ih
  exact (a.trans b).trans (c ms)
theorem samp_lawf (ds : List Int) : ∀ (ss : List Int), (samp ds ss).Perm (lawf ds ss) := by
  have go : ∀ (ss : List Int) (ps qs : List (List Int)), ps.Perm qs → (ss.foldl (fun ps s => pext ps (srtI (ds ++ [s]))) ps).Perm (ss.foldl (fun ps s => pextL ps (ds ++ [s])) qs) := fun ss => by
    induction ss with
    | nil => exact fun ps qs h => h
    | cons s ss ih => exact fun ps qs h => ih _ _ (pext_perm h (srtI_perm _))
  exact fun ss => go ss _ _ (List.Perm.refl _)
theorem samp_perm {ds es ss : List Int} (p : ds.Perm es) : samp ds ss = samp es ss := by
  have e : ∀ s, srtI (ds ++ [s]) = srtI (es ++ [s]) := fun s => srtI_congr (p.append_right _)
  unfold samp
  simp only [e]
theorem code_snoc (B : Int) (n : Int) : ∀ p : List Int, TS.code B (p ++ [n]) = TS.code B p * B + n
  | [] => by simp [TS.code]
  | d :: p => by
    have ih := code_snoc B n p
    show d * B ^ (p ++ [n]).length + TS.code B (p ++ [n]) = (d * B ^ p.length + TS.code B p) * B + n
    rw [ih, List.length_append, List.length_singleton, Int.pow_succ, Int.add_mul, Int.mul_assoc, Int.add_assoc]
def PkOk (B : Int) (d : Nat) (ps : List (List Int)) : Prop := (∀ p ∈ ps, p.length = d ∧ TS.Bd B p) ∧ ps.Pairwise (fun p q => TS.code B p < TS.code B q)
theorem pext_ok {B : Int} {d : Nat} {ps : List (List Int)} {ns : List Int} (h : PkOk B d ps) (hb : TS.Bd B ns) (hn : ns.Pairwise (· < ·)) : PkOk B (d + 1) (pext ps ns) := by
  refine ⟨fun q hq => ?_, ?_⟩
  · obtain ⟨p, hp, hq⟩ := List.mem_flatMap.mp hq
    obtain ⟨n, hn, rfl⟩ := List.mem_map.mp hq
    obtain ⟨h1, h2⟩ := h.1 p hp
    refine ⟨by rw [List.length_append, h1] <;> rfl, fun m hm => ?_⟩
    rcases List.mem_append.mp hm with hm | hm
    · exact h2 m hm
    · rw [List.mem_singleton.mp hm]
      exact hb n hn
  · have h2 := h.2
    clear h
    unfold pext
    induction ps with
    | nil => exact .nil
    | cons p ps ih =>
      rw [List.flatMap_cons]
      obtain ⟨a, b⟩ := List.pairwise_cons.mp h2
      refine List.pairwise_append.mpr ⟨?_, ih b, fun x hx y hy => ?_⟩
      · rw [List.pairwise_map]
        refine hn.imp fun {n m} h => ?_
        rw [code_snoc, code_snoc]
        omega
      · obtain ⟨n, hn', rfl⟩ := List.mem_map.mp hx
        obtain ⟨q, hq, hy⟩ := List.mem_flatMap.mp hy
        obtain ⟨m, hm, rfl⟩ := List.mem_map.mp hy
        rw [code_snoc, code_snoc]
        have l := a q hq
        obtain ⟨n0, n1⟩ := hb n hn'
        obtain ⟨m0, m1⟩ := hb m hm
        have z : (TS.code B p + 1) * B ≤ TS.code B q * B := Int.mul_le_mul_of_nonneg_right (by omega) (by omega)
        rw [Int.add_mul, Int.one_mul] at z
        omega
theorem samp_ok {B : Int} {ds : List Int} (hd : TS.Bd B ds) (nd : ds.Nodup) {ss : List Int} (hs : ∀ s ∈ ss, s ∉ ds ∧ 0 ≤ s ∧ s < B) : PkOk B ss.length (samp ds ss) := by
  have go : ∀ (ss : List Int) (d : Nat) (ps : List (List Int)), (∀ s ∈ ss, s ∉ ds ∧ 0 ≤ s ∧ s < B) → PkOk B d ps → PkOk B (d + ss.length) (ss.foldl (fun ps s => pext ps (srtI (ds ++ [s]))) ps) := fun ss => by
    induction ss with
    | nil => exact fun d ps _ h => h
    | cons s ss ih =>
      intro d ps hs h
      obtain ⟨h1, h2, h3⟩ := hs s (List.mem_cons_self ..)
      have mem : ∀ x ∈ srtI (ds ++ [s]), x ∈ ds ∨ x = s := fun x hx => by
        rcases List.mem_append.mp ((srtI_perm _).mem_iff.mp hx) with z | z
        · exact .inl z
        · exact .inr (List.mem_singleton.mp z)
      have nd' : (srtI (ds ++ [s])).Nodup := (srtI_perm _).nodup_iff.mpr (List.nodup_append.mpr ⟨nd, by simp, fun a ha b hb e => by
        rw [List.mem_singleton.mp hb] at e
        exact h1 (e ▸ ha)⟩)
      have k := ih (d + 1) _ (fun t ht => hs t (List.mem_cons_of_mem _ ht)) (pext_ok h (fun x hx => (mem x hx).elim (fun z => hd x z) fun z => z ▸ ⟨h2, h3⟩) (asc_lt (srtI_asc _) nd'))
      rw [List.length_cons, show d + (ss.length + 1) = d + 1 + ss.length by omega]
      exact k
  have := go ss 0 [[]] hs ⟨fun p hp => by
    rw [List.mem_singleton.mp hp]
    exact ⟨rfl, fun m hm => nomatch hm⟩, List.pairwise_singleton _ _⟩
  rw [Nat.zero_add] at this
  exact this
theorem pext_len (ps : List (List Int)) (ns : List Int) : (pext ps ns).length = ps.length * ns.length := by
  unfold pext
  induction ps with
  | nil => simp
  | cons p ps ih => rw [List.flatMap_cons, List.length_append, ih, List.length_map, List.length_cons, Nat.add_mul, Nat.one_mul, Nat.add_comm]
theorem samp_len (ds : List Int) (ss : List Int) : (samp ds ss).length = (ds.length + 1) ^ ss.length := by
  have go : ∀ (ss : List Int) (ps : List (List Int)), (ss.foldl (fun ps s => pext ps (srtI (ds ++ [s]))) ps).length = ps.length * (ds.length + 1) ^ ss.length := fun ss => by
    induction ss with
    | nil => intro ps; simp
    | cons s ss ih =>
      intro ps
      rw [List.foldl_cons, ih, pext_len, (srtI_perm _).length_eq, List.length_append, List.length_singleton, List.length_cons, Nat.pow_succ, Nat.mul_assoc, Nat.mul_comm (ds.length + 1)]
  have := go ss [[]]
  simpa [samp] using this
theorem code_inj {B : Int} : ∀ {p q : List Int}, p.length = q.length → TS.Bd B p → TS.Bd B q → TS.code B p = TS.code B q → p = q
  | [], [], _, _, _, _ => rfl
  | [], _ :: _, h, _, _, _ => by cases h
  | _ :: _, [], h, _, _, _ => by cases h
  | d :: p, e :: q, h, hp, hq, hc => by
    have l : p.length = q.length := Nat.succ.inj h
    rcases Int.lt_trichotomy d e with z | z | z
    · have := TS.code_lt l hp.tail hq.tail z
      omega
    · subst z
      have : TS.code B p = TS.code B q := by
        have c : d * B ^ p.length + TS.code B p = d * B ^ q.length + TS.code B q := hc
        rw [l] at c
        omega
      rw [code_inj l hp.tail hq.tail this]
    · have := TS.code_lt l.symm hq.tail hp.tail z
      omega
end Mw
/-! ### list(zip(a tuple, a list)), both of one length, not empty -/
namespace Mw
open PySem PySem.Spec PyProof PyProof.Rows L2
theorem zip_no_len : typeLookup (.type "zip") "__len__" = pure none := am_miss_of_fast (by decide +kernel)
theorem zip_no_hint : typeLookup (.type "zip") "__length_hint__" = pure none := am_miss_of_fast (by decide +kernel)
/-- the cells lie apart -/
structure ZAp (z TI TO i1 i2 l1 l2 S : Addr) : Prop where
  sep : ZipSep2 z TI TO i1 i2 [i1, l1] [i2, l2]
  l1i1 : l1 ≠ i1
  l2i2 : l2 ≠ i2
  Sz : S ≠ z
  STI : S ≠ TI
  STO : S ≠ TO
  Si1 : S ≠ i1
  Si2 : S ≠ i2
  Sl1 : S ≠ l1
  Sl2 : S ≠ l2
def ZSt (h : Heap) (z TI TO i1 i2 l1 l2 S : Addr) (xs ys : Array Value) (i : Nat) : Prop :=
  IsTupOf2 h TI (.ref i1) (.ref i2) ∧ (h.IsTupleIter i1 l1 i ∧ h.IsTuple l1 xs) ∧ (h.IsListIter i2 l2 i ∧ h.IsList l2 ys) ∧
    ((i = 0 ∧ IsZip h z TI TO .none ∧ ∃ a b, IsTupOf2 h TO a b) ∨ ∃ (T : Addr) (f : Bool) (oT : Obj), IsZipHeld h z TI TO T f ∧ h.get? T = some oT ∧ T ≠ z ∧ T ≠ i1 ∧ T ≠ i2 ∧ T ≠ S)
section
variable {prog : Program} {w : World} {A : Around} {E : Value → Shared → Prop} {s : Shared} {z TI TO i1 i2 l1 l2 S : Addr} {xs ys : Array Value} {i : Nat}
theorem zt_item_held {T : Addr} {f : Bool} {oT : Obj} {x y : Value} {Q : Value → Shared → Prop} (D : ZAp z TI TO i1 i2 l1 l2 S)
    (hz : IsZipHeld s.heap z TI TO T f) (hT : s.heap.get? T = some oT) (hTI : IsTupOf2 s.heap TI (.ref i1) (.ref i2))
    (h1 : s.heap.IsTupleIter i1 l1 i) (h2 : s.heap.IsListIter i2 l2 i) (hl1 : s.heap.IsTuple l1 xs) (hl2 : s.heap.IsList l2 ys) (hx : xs[i]? = some x) (hy : ys[i]? = some y)
    (hQ : ∀ h', IsZipHeld h' z TI TO T true → h'.IsTupleIter i1 l1 (i + 1) → h'.IsListIter i2 l2 (i + 1) → IsTupOf2 h' s.heap.objs.size x y → h'.objs.size = s.heap.objs.size + 1 →
      (∀ c o, c ≠ z → c ≠ i1 → c ≠ i2 → s.heap.get? c = some o → h'.get? c = some o) → Q (.ref s.heap.objs.size) { s with heap := h' }) :
    wpAny (model prog w) A (Builtin.«zip.__next__» ⟨[.ref z], []⟩) (fun fin s' => ∃ v, fin = .done (.ret v) ∧ Q v s') E s := by
  have n1 : i1 ≠ z := fun e => D.sep.zi1 e.symm
  have n2 : i2 ≠ z := fun e => D.sep.zi2 e.symm
  have n12 : i1 ≠ i2 := fun e => D.sep.sep1_2 (by rw [e]; exact List.mem_cons_self ..)
  have nl1 : l1 ≠ z := fun e => D.sep.zf1 (by rw [← e]; simp)
  have nl2 : l2 ≠ z := fun e => D.sep.zf2 (by rw [← e]; simp)
  have nl21 : l2 ≠ i1 := fun e => D.sep.sep1_2 (by rw [← e]; simp)
  show wpAny _ _ (field (.ref z) 2 >>= _) _ _ _
  refine wpAny_bind (wpAny_field hz rfl (x := .bool false) rfl ?_)
  show wpAny _ _ (field (.ref z) 3 >>= _) _ _ _
  refine wpAny_bind (wpAny_field hz rfl (x := .ref TI) rfl ?_)
  refine wpAny_bind (wpAny_seqItems hTI rfl ?_)
  show wpAny _ _ (Builtin.SmallTypes.ownedTupleIsFree (.ref z) >>= _) _ _ _
  refine wpAny_bind (wpAny_tupleHeld_zip hz hT fun h₁ hz₁ hs₁ => ?_)
  simp only [Bool.false_eq_true, if_false]
  refine wpAny_bind ?_
  rw [← Array.forIn_toList]
  simp only [List.forIn_cons, List.forIn_nil]
  refine wpAny_bind (wpAny_bind (wpAny_holding ?_))
  show wpAny _ _ (Builtin.SmallTypes.nextOf (.ref i1) >>= _) _ _ _
  refine wpAny_bind (wpAny_nextOf_tuple_item (s := { s with heap := h₁ }) (h1.extBut hs₁.extBut n1) (hl1.extBut hs₁.extBut nl1) hx fun h₂ h1₂ hs₂ => wpAny_pure ?_)
  refine wpAny_pure ?_
  refine wpAny_bind (wpAny_bind (wpAny_holding ?_))
  show wpAny _ _ (Builtin.SmallTypes.nextOf (.ref i2) >>= _) _ _ _
  refine wpAny_bind (wpAny_nextOf_list_item (s := { s with heap := h₂ }) ((h2.extBut hs₁.extBut n2).extBut hs₂.extBut n12.symm) ((hl2.extBut hs₁.extBut nl2).extBut hs₂.extBut nl21) hy fun h₃ h2₃ hs₃ => wpAny_pure ?_)
  refine wpAny_pure (wpAny_pure ?_)
  show wpAny _ _ (newTuple [x, y] >>= _) _ _ _
  refine wpAny_bind (wpAny_newTuple ?_)
  have hsz : h₃.objs.size = s.heap.objs.size := by rw [hs₃.1, hs₂.1, hs₁.1]
  have hz₃ : IsZipHeld h₃ z TI TO T true := hs₃.extBut _ _ n2.symm (hs₂.extBut _ _ n1.symm hz₁)
  have hk : ∀ c o, c ≠ z → c ≠ i1 → c ≠ i2 → s.heap.get? c = some o → h₃.get? c = some o := fun c o c1 c2 c3 e => hs₃.extBut _ _ c3 (hs₂.extBut _ _ c2 (hs₁.extBut _ _ c1 e))
  have h1₃ : h₃.IsTupleIter i1 l1 (i + 1) := h1₂.extBut hs₃.extBut n12
  refine wpAny_pure ⟨_, rfl, ?_⟩
  show Q (.ref h₃.objs.size) _
  have hp : IsTupOf2 (h₃.push { cls := .type "tuple", data := .seq #[x, y] }) h₃.objs.size x y := Heap.get?_push_size _ rfl
  have hz4 : (h₃.push { cls := .type "tuple", data := .seq #[x, y] }).objs.size = h₃.objs.size + 1 := Heap.size_push ..
  rw [hsz] at hp hz4 ⊢
  exact hQ _ (Heap.get?_push_of_some _ hz₃) (h1₃.at fun o e => Heap.get?_push_of_some _ e) (h2₃.at fun o e => Heap.get?_push_of_some _ e) hp hz4 fun c o c1 c2 c3 e => Heap.get?_push_of_some _ (hk c o c1 c2 c3 e)
theorem zt_end_held {T : Addr} {f : Bool} {oT : Obj} {Q : Fin → Shared → Prop} (hh : A.handled = none) (D : ZAp z TI TO i1 i2 l1 l2 S)
    (hz : IsZipHeld s.heap z TI TO T f) (hT : s.heap.get? T = some oT) (hTI : IsTupOf2 s.heap TI (.ref i1) (.ref i2))
    (h1 : s.heap.IsTupleIter i1 l1 i) (hl1 : s.heap.IsTuple l1 xs) (hend : xs[i]? = none)
    (hE : ∀ h' e, (∀ c o, c ≠ z → c ≠ i1 → c ≠ i2 → s.heap.get? c = some o → h'.get? c = some o) → (∃ o, h'.get? e = some o ∧ o.cls = .type "StopIteration") → E (.ref e) { s with heap := h' }) :
    wpAny (model prog w) A (Builtin.«zip.__next__» ⟨[.ref z], []⟩) Q E s := by
  have n1 : i1 ≠ z := fun e => D.sep.zi1 e.symm
  have nl1 : l1 ≠ z := fun e => D.sep.zf1 (by rw [← e]; simp)
  show wpAny _ _ (field (.ref z) 2 >>= _) _ _ _
  refine wpAny_bind (wpAny_field hz rfl (x := .bool false) rfl ?_)
  show wpAny _ _ (field (.ref z) 3 >>= _) _ _ _
  refine wpAny_bind (wpAny_field hz rfl (x := .ref TI) rfl ?_)
  refine wpAny_bind (wpAny_seqItems hTI rfl ?_)
  show wpAny _ _ (Builtin.SmallTypes.ownedTupleIsFree (.ref z) >>= _) _ _ _
  refine wpAny_bind (wpAny_tupleHeld_zip hz hT fun h₁ hz₁ hs₁ => ?_)
  simp only [Bool.false_eq_true, if_false]
  refine wpAny_bind ?_
  rw [← Array.forIn_toList]
  simp only [List.forIn_cons, List.forIn_nil]
  refine wpAny_bind (wpAny_bind (wpAny_holding ?_))
  show wpAny _ _ (Builtin.SmallTypes.nextOf (.ref i1) >>= _) _ _ _
  refine wpAny_bind (wpAny_nextOf_tuple_end (s := { s with heap := h₁ }) hh (h1.extBut hs₁.extBut n1) (hl1.extBut hs₁.extBut nl1) hend fun h₂ e hs₂ he => ?_)
  exact hE h₂ e (fun c o c1 c2 _ x => hs₂ _ _ c2 (hs₁.extBut _ _ c1 x)) he
theorem zt_next {x y : Value} {Q : Option Value → Shared → Prop} (hh : A.handled = none) (D : ZAp z TI TO i1 i2 l1 l2 S) (st : ZSt s.heap z TI TO i1 i2 l1 l2 S xs ys i) (hS : S < s.heap.objs.size) (hx : xs[i]? = some x) (hy : ys[i]? = some y)
    (hQ : ∀ h' tk, ZSt h' z TI TO i1 i2 l1 l2 S xs ys (i + 1) → IsTupOf2 h' s.heap.objs.size x y → h'.objs.size = s.heap.objs.size + 1 →
      (∀ c o, c ≠ z → c ≠ TO → c ≠ i1 → c ≠ i2 → s.heap.get? c = some o → h'.get? c = some o) → Q (some (.ref s.heap.objs.size)) { s with heap := h', toks := tk }) :
    wpAny (model prog w) A (pyNext (.ref z)) Q E s := by
  obtain ⟨hTI, ⟨h1, hl1⟩, ⟨h2, hl2⟩, st⟩ := st
  have n1 : i1 ≠ z := fun e => D.sep.zi1 e.symm
  have n2 : i2 ≠ z := fun e => D.sep.zi2 e.symm
  have nl1 : l1 ≠ z := fun e => D.sep.zf1 (by rw [← e]; simp)
  have nl2 : l2 ≠ z := fun e => D.sep.zf2 (by rw [← e]; simp)
  have nlT1 : l1 ≠ TO := fun e => D.sep.Tf1 (by rw [← e]; simp)
  have nlT2 : l2 ≠ TO := fun e => D.sep.Tf2 (by rw [← e]; simp)
  have nl21 : l2 ≠ i1 := fun e => D.sep.sep1_2 (by rw [← e]; simp)
  have nl12 : l1 ≠ i2 := fun e => D.sep.sep2_1 (by rw [← e]; simp)
  have hlt : ∀ {a : Addr} {o : Obj}, s.heap.get? a = some o → s.heap.objs.size ≠ a := fun e => Nat.ne_of_gt (Heap.lt_size e)
  obtain ⟨o1, e1, _⟩ := id h1
  obtain ⟨o2, e2, _⟩ := id h2
  have lx : i < xs.size := (Array.getElem?_eq_some_iff.mp hx).1
  have ly : i < ys.size := (Array.getElem?_eq_some_iff.mp hy).1
  rcases st with ⟨rfl, hz, a, b, hTO⟩ | ⟨T, f, oT, hz, hT, nT1, nT2, nT3, nT4⟩
  · refine wpAny_pyNext_zipD2_item (s := s) D.sep (Draws.tuple (A := A.in1) hh i1 l1 D.l1i1 xs) (Draws.list (A := A.in1) hh i2 l2 D.l2i2 ys) hz hTI hTO ⟨h1, hl1⟩ ⟨h2, hl2⟩ lx ly fun x1 x2 h' tk p1 p2 hz' hTO' s1 s2 hp hsz hk => ?_
    have q1 : xs[0]? = some x1 := p1
    have q2 : ys[0]? = some x2 := p2
    rw [hx] at q1
    rw [hy] at q2
    cases q1
    cases q2
    exact hQ h' tk ⟨hk _ _ D.sep.TIz D.sep.TITO D.sep.TIi1 D.sep.TIi2 hTI, s1, s2, .inr ⟨_, false, _, hz', hp, hlt hz, hlt e1, hlt e2, Nat.ne_of_gt hS⟩⟩ hp hsz hk
  · have hTy : s.TypeIs (.ref z) "zip" := ⟨_, hz, rfl⟩
    unfold pyNext
    refine wpAny_bind (wpAny_attempt (wpAny_callSpecial?_slot (name := Str.ofString "__next__") hTy F.slot_zip_next
      (wpAny_call_entry F.slot_zip_next hTy F.entry_zip_next
        (zt_item_held D hz hT hTI h1 h2 hl1 hl2 hx hy fun h' a1 a3 a4 a5 a6 a7 => wpAny_pure ?_) (F.args_zip_next_1 _))))
    exact hQ h' s.toks ⟨a7 _ _ D.sep.TIz D.sep.TIi1 D.sep.TIi2 hTI, ⟨a3, hl1.at fun o e => a7 _ _ nl1 D.l1i1 nl12 e⟩, ⟨a4, hl2.at fun o e => a7 _ _ nl2 nl21 D.l2i2 e⟩, .inr ⟨T, true, oT, a1, a7 _ _ nT1 nT2 nT3 hT, nT1, nT2, nT3, nT4⟩⟩ a5 a6 fun c o c1 _ c3 c4 e => a7 c o c1 c3 c4 e
theorem zt_done {Q : Option Value → Shared → Prop} (hh : A.handled = none) (D : ZAp z TI TO i1 i2 l1 l2 S) (st : ZSt s.heap z TI TO i1 i2 l1 l2 S xs ys i) (h0 : i ≠ 0) (hx : xs[i]? = none)
    (hQ : ∀ h', (∀ c o, c ≠ z → c ≠ i1 → c ≠ i2 → s.heap.get? c = some o → h'.get? c = some o) → Q none { s with heap := h' }) :
    wpAny (model prog w) A (pyNext (.ref z)) Q E s := by
  obtain ⟨hTI, ⟨h1, hl1⟩, ⟨h2, hl2⟩, st⟩ := st
  rcases st with ⟨e, _⟩ | ⟨T, f, oT, hz, hT, nT1, nT2, nT3, nT4⟩
  · exact absurd e h0
  · have hTy : s.TypeIs (.ref z) "zip" := ⟨_, hz, rfl⟩
    unfold pyNext
    refine wpAny_bind (wpAny_attempt (wpAny_callSpecial?_slot (name := Str.ofString "__next__") hTy F.slot_zip_next
      (wpAny_call_entry F.slot_zip_next hTy F.entry_zip_next (zt_end_held hh D hz hT hTI h1 hl1 hx fun h' e hk he => ?_) (F.args_zip_next_1 _))))
    obtain ⟨o, ho, hc⟩ := he
    refine wpAny_bind (wpAny_isInstance (T := "StopIteration") (b := true) ⟨o, ho, hc⟩ isSubtype_stop ?_)
    exact wpAny_pure (hQ _ hk)
/-- the pairs that were made so far -/
structure ZG (xs ys : Array Value) (lo : Addr) (h : Heap) (as : List Addr) : Prop where
  rise : as.Pairwise (· < ·)
  above : ∀ a ∈ as, lo < a
  pairs : ∀ (j : Nat) (a : Addr), as[j]? = some a → ∃ x y, xs[j]? = some x ∧ ys[j]? = some y ∧ IsTupOf2 h a x y
theorem ZG.there {lo : Addr} {h : Heap} {as : List Addr} (g : ZG xs ys lo h as) {a : Addr} (ha : a ∈ as) : a < h.objs.size := by
  obtain ⟨j, hj⟩ := List.mem_iff_getElem?.mp ha
  obtain ⟨_, _, _, _, e⟩ := g.pairs j a hj
  exact Heap.lt_size e
end
section
variable {prog : Program} {w : World} {A : Around} {s : Shared} {R : Result → Shared → Prop} {z TI TO i1 i2 l1 l2 S : Addr} {xs ys : Array Value}
theorem ZSt.keep {h h' : Heap} {i : Nat} (D : ZAp z TI TO i1 i2 l1 l2 S) (st : ZSt h z TI TO i1 i2 l1 l2 S xs ys i) (k : ∀ b o, b ≠ S → h.get? b = some o → h'.get? b = some o) : ZSt h' z TI TO i1 i2 l1 l2 S xs ys i := by
  obtain ⟨hTI, ⟨h1, hl1⟩, ⟨h2, hl2⟩, st⟩ := st
  refine ⟨k _ _ D.STI.symm hTI, ⟨h1.at fun o e => k _ _ D.Si1.symm e, hl1.at fun o e => k _ _ D.Sl1.symm e⟩, ⟨h2.at fun o e => k _ _ D.Si2.symm e, hl2.at fun o e => k _ _ D.Sl2.symm e⟩, ?_⟩
  rcases st with ⟨rfl, hz, a, b, hTO⟩ | ⟨T, f, oT, hz, hT, n1, n2, n3, n4⟩
  · exact .inl ⟨rfl, k _ _ D.Sz.symm hz, a, b, k _ _ D.STO.symm hTO⟩
  · exact .inr ⟨T, f, oT, k _ _ D.Sz.symm hz, k _ _ n4 hT, n1, n2, n3, n4⟩
theorem zt_loop (hh : A.handled = none) (D : ZAp z TI TO i1 i2 l1 l2 S) (hxy : xs.size = ys.size) (hn : xs.size ≤ sizeLine) (h1 : 1 ≤ xs.size) (low : z < S ∧ TO < S ∧ i1 < S ∧ i2 < S) (res : Value) {h₁ : Heap}
    (hR : ∀ h' tk acc c as, (∀ b o, b ≠ S → b ≠ z → b ≠ TO → b ≠ i1 → b ≠ i2 → h₁.get? b = some o → h'.get? b = some o) → h'.get? S = some { cls := .type "list", dict := none, data := .seq acc c, slots := #[] } → as.length = xs.size → ZG xs ys S h' as →
      acc.toList = as.map Value.ref → R (.ok (.ret res)) { s with heap := h', toks := tk }) :
    ∀ (k i : Nat) (h : Heap) (tk c : Nat) (acc : Array Value) (as : List Addr), xs.size - i = k → i ≤ xs.size → ZSt h z TI TO i1 i2 l1 l2 S xs ys i → (∀ b o, b ≠ S → b ≠ z → b ≠ TO → b ≠ i1 → b ≠ i2 → h₁.get? b = some o → h.get? b = some o) →
      h.get? S = some { cls := .type "list", dict := none, data := .seq acc c, slots := #[] } → acc.toList = as.map Value.ref → as.length = i → ZG xs ys S h as →
      codeAny (model prog w) A (.builtin "list.extend.loop" ⟨[.ref S, .ref z, res], []⟩) R { s with heap := h, toks := tk } := by
  intro k
  induction k with
  | zero =>
    intro i h tk c acc as hk hi hst hkeep hS hacc hal hG
    refine codeAny_builtin PySem.F.entry_extend_loop ?_
    rw [Around.under_plainId PySem.F.plain_extend_loop _]
    show wpAny _ A.in1 (pyNext (.ref z) >>= _) _ _ _
    refine wpAny_bind (zt_done (s := { s with heap := h, toks := tk }) (A := A.in1) hh D hst (by omega) (Array.getElem?_eq_none (by omega)) fun h' he => ?_)
    have up : ∀ b o, b ≠ z → b ≠ i1 → b ≠ i2 → h.get? b = some o → h'.get? b = some o := he
    refine wpAny_pure (hR h' tk acc c as (fun b o n1 n2 n3 n4 n5 e => up b o n2 n4 n5 (hkeep b o n1 n2 n3 n4 n5 e)) (up S _ D.Sz D.Si1 D.Si2 hS) (by omega) ⟨hG.rise, hG.above, fun j a hj => ?_⟩ hacc)
    obtain ⟨x, y, e1, e2, e3⟩ := hG.pairs j a hj
    have ab := hG.above a (List.mem_of_getElem? hj)
    exact ⟨x, y, e1, e2, up a _ (Nat.ne_of_gt (Nat.lt_trans low.1 ab)) (Nat.ne_of_gt (Nat.lt_trans low.2.2.1 ab)) (Nat.ne_of_gt (Nat.lt_trans low.2.2.2 ab)) e3⟩
  | succ k ih =>
    intro i h tk c acc as hk hi hst hkeep hS hacc hal hG
    have hlt : i < xs.size := by omega
    have hx : xs[i]? = some xs[i] := Array.getElem?_eq_getElem hlt
    have hlt2 : i < ys.size := by omega
    have hy : ys[i]? = some ys[i] := Array.getElem?_eq_getElem hlt2
    have hsz : acc.size = i := by rw [← Array.length_toList, hacc, List.length_map, hal]
    have hSl : S < h.objs.size := Heap.lt_size hS
    refine codeAny_builtin PySem.F.entry_extend_loop ?_
    rw [Around.under_plainId PySem.F.plain_extend_loop _]
    show wpAny _ A.in1 (pyNext (.ref z) >>= _) _ _ _
    refine wpAny_bind (zt_next (s := { s with heap := h, toks := tk }) (A := A.in1) hh D hst hSl hx hy fun h' tk' hst' ht hz hkp => ?_)
    dsimp only at ht hz hkp ⊢
    have hS' := hkp S _ D.Sz D.STO D.Si1 D.Si2 hS
    have up : ∀ b o, b ≠ S → h'.get? b = some o → (h'.update S (Obj.mapSeq (·.push (Value.ref h.objs.size)))).get? b = some o := fun b o hb e => (Heap.get?_update_other _ _ (Ne.symm hb)).trans e
    have hi : ∀ b, S < b → b ≠ z ∧ b ≠ TO ∧ b ≠ i1 ∧ b ≠ i2 := fun b hb => ⟨Nat.ne_of_gt (Nat.lt_trans low.1 hb), Nat.ne_of_gt (Nat.lt_trans low.2.1 hb), Nat.ne_of_gt (Nat.lt_trans low.2.2.1 hb), Nat.ne_of_gt (Nat.lt_trans low.2.2.2 hb)⟩
    show wpAny _ A.in1 (updateSeq S (·.push (Value.ref h.objs.size)) >>= _) _ _ _
    refine wpAny_bind ?_
    refine wpAny_updateSeq hS' rfl (wpAny_pure ⟨plainId_quiet PySem.F.plain_extend_loop _, ih (i + 1) _ tk' _ (acc.push (Value.ref h.objs.size)) (as ++ [h.objs.size]) (by omega) hlt (hst'.keep D up)
      (fun b o n1 n2 n3 n4 n5 e => up b o n1 (hkp b o n2 n3 n4 n5 (hkeep b o n1 n2 n3 n4 n5 e))) (Heap.get?_update_self _ hS' rfl) (by rw [Array.toList_push, hacc, List.map_append]; rfl) (by rw [List.length_append, hal]; rfl) ⟨?_, ?_, ?_⟩⟩) (by rw [hsz]; omega) (by show (acc.push (Value.ref h.objs.size)).size ≤ sizeLine + 1; rw [Array.size_push, hsz]; omega)
    · refine List.pairwise_append.mpr ⟨hG.rise, List.pairwise_singleton _ _, fun a ha b hb => ?_⟩
      rw [List.mem_singleton.mp hb]
      exact hG.there ha
    · intro a ha
      rcases List.mem_append.mp ha with ha | ha
      · exact hG.above a ha
      · rw [List.mem_singleton.mp ha]; exact hSl
    · intro j b hj
      rcases Nat.lt_trichotomy j as.length with h1 | h1 | h1
      · rw [List.getElem?_append_left h1] at hj
        obtain ⟨x', y', e1, e2, e3⟩ := hG.pairs j b hj
        have hb := hG.above b (List.mem_of_getElem? hj)
        obtain ⟨m1, m2, m3, m4⟩ := hi b hb
        exact ⟨x', y', e1, e2, up b _ (Nat.ne_of_gt hb) (hkp b _ m1 m2 m3 m4 e3)⟩
      · subst h1
        have hb : h.objs.size = b := by simpa using hj
        subst hb
        exact ⟨_, _, by rw [hal]; exact hx, by rw [hal]; exact hy, up _ _ (Nat.ne_of_gt hSl) ht⟩
      · have hnone : (as ++ [h.objs.size])[j]? = none := List.getElem?_eq_none (by rw [List.length_append, List.length_singleton]; omega)
        rw [hnone] at hj; cases hj
end
end Mw
namespace Mw
open PySem PySem.Spec PyProof PyProof.Rows L2
section
variable {prog : Program} {w : World} {A : Around} {E : Value → Shared → Prop} {s : Shared} {z TI TO i1 i2 l1 l2 : Addr} {xs ys : Array Value}
theorem ZSt.zip {h : Heap} {S : Addr} {i : Nat} (st : ZSt h z TI TO i1 i2 l1 l2 S xs ys i) : ∃ f0 f1, h.get? z = some { cls := .type "zip", dict := none, data := .fields #[f0, f1, .bool false, .ref TI, .ref TO], slots := #[] } := by
  obtain ⟨_, _, _, st⟩ := st
  rcases st with ⟨_, hz, _⟩ | ⟨T, f, _, hz, _⟩
  · exact ⟨_, _, hz⟩
  · exact ⟨_, _, hz⟩
theorem zt_init {R : Result → Shared → Prop} {S : Addr} (hh : A.handled = none) (D : ZAp z TI TO i1 i2 l1 l2 S) (hxy : xs.size = ys.size) (hn : xs.size ≤ sizeLine) (h1 : 1 ≤ xs.size) (low : z < S ∧ TO < S ∧ i1 < S ∧ i2 < S)
    (st : ZSt s.heap z TI TO i1 i2 l1 l2 S xs ys 0) (hz : IsZip s.heap z TI TO .none) (hS : s.heap.get? S = some { cls := .type "list", data := .seq #[] })
    (hR : ∀ h' tk acc c as, (∀ b o, b ≠ S → b ≠ z → b ≠ TO → b ≠ i1 → b ≠ i2 → s.heap.get? b = some o → h'.get? b = some o) → h'.get? S = some { cls := .type "list", dict := none, data := .seq acc c, slots := #[] } → as.length = xs.size → ZG xs ys S h' as →
      acc.toList = as.map Value.ref → R (.ok (.ret .none)) { s with heap := h', toks := tk }) :
    wpAny (model prog w) A.in1 (Builtin.«list.__init__» ⟨[.ref S, .ref z], []⟩)
      (fun fin s' => match fin with | .done f => R (.ok f) s' | .again c' => c'.quiet = true ∧ codeAny (model prog w) A c' R s') (fun e s' => R (.error e) s') s := by
  show wpAny _ _ (do let old ← Builtin.List.listItems (.ref S); Builtin.List.listUpdate (.ref S) (fun _ => #[]); letGo old.toList.reverse; Builtin.List.listExtendWith (.ref S) (.ref z) .none) _ _ s
  refine wpAny_bind ?_
  unfold Builtin.List.listItems
  refine wpAny_bind (wpAny_seqItems hS rfl (wpAny_pure ?_))
  show wpAny _ _ (updateSeq S (fun _ => #[]) >>= fun _ => letGo (#[] : Array Value).toList.reverse >>= fun _ => Builtin.List.listExtendWith (.ref S) (.ref z) .none) _ _ s
  refine wpAny_bind (wpAny_updateSeq hS rfl ?_)
  have hS₂ := Heap.get?_update_self (Obj.mapSeq (fun _ => (#[] : Array Value))) hS rfl
  have oth : ∀ b o, b ≠ S → s.heap.get? b = some o → (s.heap.update S (Obj.mapSeq (fun _ => (#[] : Array Value)))).get? b = some o :=
    fun b o hb e => (Heap.get?_update_other _ _ (Ne.symm hb)).trans e
  refine wpAny_bind (wpAny_letGo ?_)
  generalize hh2 : s.heap.update S (Obj.mapSeq (fun _ => (#[] : Array Value))) = h₂ at hS₂ oth
  have st₂ : ZSt h₂ z TI TO i1 i2 l1 l2 S xs ys 0 := st.keep D oth
  have hz₂ : IsZip h₂ z TI TO .none := oth _ _ D.Sz.symm hz
  have hT : ({ s with heap := h₂ } : Shared).TypeIs (.ref z) "zip" := ⟨_, hz₂, rfl⟩
  unfold Builtin.List.listExtendWith
  refine wpAny_bind (wpAny_typeOf hT ?_)
  have e1 : Builtin.List.listSameRef (.ref S) (.ref z) = false := by simp [Builtin.List.listSameRef, D.Sz]
  have e2 : (Value.type "zip" == Value.type "list") = false := by decide
  have e3 : (Value.type "zip" == Value.type "tuple") = false := by decide
  simp only [e1, e2, e3, Bool.or_false, Bool.false_eq_true, if_false]
  refine wpAny_bind (wpAny_pyIter_zip hz₂ ?_)
  refine wpAny_bind (wpAny_holding ?_)
  unfold Builtin.List.listLengthHint
  refine wpAny_bind (wpAny_specialOf hT zip_no_len ?_)
  show wpAny _ A.in1 (specialOf (Value.ref z) (Str.ofString "__length_hint__") >>= _) _ _ _
  refine wpAny_bind (wpAny_specialOf hT zip_no_hint ?_)
  refine wpAny_pure ?_
  show wpAny _ A.in1 (rule "list.extend.makes-room" >>= fun _ => Builtin.List.listTouch (.ref S) >>= fun _ =>
    again (.builtin "list.extend.loop" ⟨[.ref S, .ref z, .none], []⟩)) _ _ _
  refine wpAny_bind (wpAny_rule ?_)
  refine wpAny_bind ?_
  show wpAny _ A.in1 (updateSeq S (·.push .none) >>= fun _ => updateSeq S (·.pop)) _ _ _
  refine wpAny_bind (wpAny_updateSeq hS₂ rfl ?_)
  have hS₃ := Heap.get?_update_self (Obj.mapSeq (·.push Value.none)) hS₂ rfl
  refine wpAny_updateSeq (hz := by seq_fits) hS₃ rfl ?_
  have hS₄ := Heap.get?_update_self (Obj.mapSeq (·.pop)) hS₃ rfl
  have oth2 : ∀ b o, b ≠ S → h₂.get? b = some o → ((h₂.update S (Obj.mapSeq (·.push Value.none))).update S (Obj.mapSeq (·.pop))).get? b = some o :=
    fun b o hb e => (Heap.get?_update_other _ _ (Ne.symm hb)).trans ((Heap.get?_update_other _ _ (Ne.symm hb)).trans e)
  refine wpAny_pure ⟨plainId_quiet PySem.F.plain_extend_loop _, zt_loop (h₁ := s.heap) (s := { s with heap := h₂ }) (xs := xs) (ys := ys) hh D hxy hn h1 low .none (fun h' tk acc c as k hS' hl hG hacc => hR h' tk acc c as k hS' hl hG hacc) xs.size 0 _ _ _ #[] [] (Nat.sub_zero _) (Nat.zero_le _) (st₂.keep D oth2) (fun b o n1 _ _ _ _ e => oth2 b o n1 (oth b o n1 e)) hS₄ rfl rfl ⟨List.Pairwise.nil, (fun _ ha => nomatch ha), (fun j a hj => by simp at hj)⟩⟩
theorem zt_call {Q : Value → Shared → Prop} (hh : A.handled = none) (D : ZAp z TI TO i1 i2 l1 l2 s.heap.objs.size) (hxy : xs.size = ys.size) (hn : xs.size ≤ sizeLine) (h1 : 1 ≤ xs.size)
    (st : ZSt s.heap z TI TO i1 i2 l1 l2 s.heap.objs.size xs ys 0) (hz : IsZip s.heap z TI TO .none)
    (hQ : ∀ h' tk acc c as, (∀ b o, b ≠ z → b ≠ TO → b ≠ i1 → b ≠ i2 → s.heap.get? b = some o → h'.get? b = some o) → h'.get? s.heap.objs.size = some { cls := .type "list", dict := none, data := .seq acc c, slots := #[] } → as.length = xs.size → ZG xs ys s.heap.objs.size h' as →
      acc.toList = as.map Value.ref → Q (.ref s.heap.objs.size) { s with heap := h', toks := tk }) :
    wpAny (model prog w) A (call (.type "list") [.ref z]) Q E s := by
  refine callType_codes (Q₁ := fun obj s₁ => obj = .ref s.heap.objs.size ∧ s₁ = { s with heap := s.heap.push { cls := .type "list", data := .seq #[] } }) PySem.F.called_list (PySem.F.typeCall_list_1 _) PySem.F.entry_list_init
    (code_list_new _ ⟨rfl, rfl⟩) fun obj s₁ h₁ => ?_
  obtain ⟨rfl, rfl⟩ := h₁
  have hS : (s.heap.push { cls := .type "list", data := .seq #[] }).get? s.heap.objs.size = some { cls := .type "list", data := .seq #[] } := Heap.get?_push_size _ rfl
  have up : ∀ b o, s.heap.get? b = some o → (s.heap.push { cls := .type "list", data := .seq #[] }).get? b = some o := fun b o e => Heap.get?_push_of_some _ e
  have low : z < s.heap.objs.size ∧ TO < s.heap.objs.size ∧ i1 < s.heap.objs.size ∧ i2 < s.heap.objs.size := by
    obtain ⟨_, ⟨⟨o1, e1, _⟩, _⟩, ⟨⟨o2, e2, _⟩, _⟩, st⟩ := st
    refine ⟨Heap.lt_size hz, ?_, Heap.lt_size e1, Heap.lt_size e2⟩
    rcases st with ⟨_, _, a, b, h⟩ | ⟨T, f, oT, h, _⟩
    · exact Heap.lt_size h
    · have e : (some _ : Option Obj) = some _ := hz.symm.trans h
      simp [rawInt] at e
  refine ⟨⟨_, hS, rfl⟩, PySem.F.args_list_init_2 _ _, zt_init (A := A.in1) hh D hxy hn h1 low (st.keep D fun b o _ e => up b o e) (up _ _ hz) hS (fun h' tk acc c as hk hS' hl hG hacc => ?_)⟩
  exact ⟨rfl, hQ h' tk acc c as (fun b o n1 n2 n3 n4 e => hk b o (Nat.ne_of_lt (Heap.lt_size e)) n1 n2 n3 n4 (up b o e)) hS' hl hG hacc⟩
end
/-- new pairs in the abstract heap -/
def putP : Hp → List Addr → List (V × V) → Hp
  | H, a :: as, p :: ps => putP (upd H a (.tup [p.1, p.2])) as ps
  | H, _, _ => H
theorem putP_off {b : Addr} : ∀ (as : List Addr) (ps : List (V × V)) (H : Hp), b ∉ as → putP H as ps b = H b
  | [], _, _, _ => rfl
  | _ :: _, [], _, _ => rfl
  | a :: as, p :: ps, H, h => by
    show putP (upd H a (.tup [p.1, p.2])) as ps b = H b
    rw [putP_off as ps _ (fun z => h (List.mem_cons_of_mem _ z)), upd_ne (fun z => h (by rw [z]; exact List.mem_cons_self))]
theorem putP_at : ∀ (as : List Addr) (ps : List (V × V)) (H : Hp), as.length = ps.length → as.Nodup → ∀ (j : Nat) (a : Addr), as[j]? = some a → ∃ p, ps[j]? = some p ∧ putP H as ps a = some (.tup [p.1, p.2])
  | [], _, _, _, _, j, a, h => by simp at h
  | _ :: _, [], _, h, _, _, _, _ => by cases h
  | a :: as, p :: ps, H, h, hn, 0, b, e => by
    have hn' := List.nodup_cons.mp hn
    cases e
    exact ⟨p, rfl, by
      show putP (upd H a (.tup [p.1, p.2])) as ps a = _
      rw [putP_off as ps _ hn'.1, upd_same]⟩
  | a :: as, p :: ps, H, h, hn, j + 1, b, e => putP_at as ps (upd H a (.tup [p.1, p.2])) (Nat.succ.inj h) (List.nodup_cons.mp hn).2 j b e
def tListZip (K : PySem.W.Frag) (ta : TA) : TE := fun σ H Q => ta σ H fun vs H1 => ∃ (a b : Addr) (xs ys : List V), vs = [.ref a, .ref b] ∧ SqT K H1 a xs ∧ SqL K H1 b ys ∧ xs.length = ys.length ∧ 1 ≤ xs.length ∧
  ∀ (p : Addr) (ts : List Addr), H1 p = none → (∀ t ∈ ts, H1 t = none) → p ∉ ts → ts.Nodup → ts.length = xs.length → Q (.ref p) (putP (upd H1 p (.lst (ts.map V.ref))) ts (xs.zip ys))
theorem laidP {X : Cx} {pins : List (Addr × Obj)} {σ : L2.St} {H : Hp} {s : Shared} {h' : Heap} {tk : Nat} {S : Addr} {ps : List (V × V)} {acc : Array Value} {c : Nat} {as : List Addr} (I : Inv X pins σ H s) (hz : ps.length ≤ sizeLine) (hS0 : s.heap.objs.size ≤ S)
    (hk : ∀ b o, s.heap.get? b = some o → h'.get? b = some o) (hS : h'.get? S = some { cls := .type "list", dict := none, data := .seq acc c, slots := #[] }) (hl : as.length = ps.length) (rise : as.Pairwise (· < ·)) (above : ∀ a ∈ as, S < a)
    (hp : ∀ (j : Nat) (a : Addr) (p : V × V), as[j]? = some a → ps[j]? = some p → ∃ u v, RelV p.1 u ∧ RelV p.2 v ∧ h'.get? a = some { cls := .type "tuple", data := .seq #[u, v] }) (hacc : acc.toList = as.map Value.ref) :
    Inv X pins σ (putP (upd H S (.lst (as.map V.ref))) as ps) { s with heap := h', toks := tk } ∧ H S = none ∧ (∀ t ∈ as, H t = none) ∧ S ∉ as ∧ as.Nodup := by
  have hSn : S ∉ as := fun z => Nat.lt_irrefl _ (above _ z)
  have nd : as.Nodup := List.Pairwise.imp (fun {a b} (h : a < b) => Nat.ne_of_lt h) rise
  have new : ∀ t ∈ as, H t = none := fun t ht => I.hok.fresh (Nat.le_of_lt (Nat.lt_of_le_of_lt hS0 (above t ht)))
  have newS : H S = none := I.hok.fresh hS0
  have atP := putP_at as ps (upd H S (.lst (as.map V.ref))) hl nd
  have off : ∀ b, b ∉ as → b ≠ S → putP (upd H S (.lst (as.map V.ref))) as ps b = H b := fun b h1 h2 => by rw [putP_off as ps _ h1, upd_ne h2]
  have low : ∀ b o, s.heap.get? b = some o → b ∉ as ∧ b ≠ S := fun b o e => ⟨fun z => absurd (Heap.lt_size e) (Nat.not_lt.mpr (Nat.le_of_lt (Nat.lt_of_le_of_lt hS0 (above b z)))), Nat.ne_of_lt (Nat.lt_of_lt_of_le (Heap.lt_size e) hS0)⟩
  have kp : ∀ b u, H b = some u → (putP (upd H S (.lst (as.map V.ref))) as ps) b = some u := fun b u e => by
    rw [off b (fun z => by rw [new b z] at e; cases e) (fun z => by rw [z, newS] at e; cases e)]
    exact e
  have eS : putP (upd H S (.lst (as.map V.ref))) as ps S = some (.lst (as.map V.ref)) := by rw [putP_off as ps _ hSn, upd_same]
  refine ⟨?_, newS, new, hSn, nd⟩
  refine I.call' (ch := []) rfl ⟨fun b o q _ _ _ => hk b o q, fun b o q _ _ _ => ⟨o.slots, hk b o q⟩, fun b o q n _ => ?_, fun b o q _ => ⟨o, hk b o q⟩, fun b xs q => kp b _ q, fun b o u q => kp b _ q, fun b ps q => ⟨#[], by rw [kp b _ q]; simp⟩⟩ (fun b u q => ?_) I.bare fun b z => by simp at z
  · obtain ⟨z1, z2⟩ := low b o q
    rw [off b z1 z2]
    exact n
  · by_cases hb : b ∈ as
    · obtain ⟨j, hj⟩ := List.mem_iff_getElem?.mp hb
      obtain ⟨p, e1, e2⟩ := atP j b hj
      rw [e2] at q
      cases q
      obtain ⟨u, v, r1, r2, g⟩ := hp j b p hj e1
      exact ⟨by show 2 ≤ sizeLine; decide, [u, v], .cons r1 (.cons r2 .nil), ⟨_, g, rfl, _, rfl⟩⟩
    · by_cases hb2 : b = S
      · rw [hb2] at q ⊢
        rw [eS] at q
        cases q
        refine ⟨by rw [List.length_map]; omega, acc.toList, c, by rw [hacc]; exact LiI.vals_refs as, ?_⟩
        rw [Array.toArray_toList]
        exact hS
      · rw [off b hb hb2] at q
        exact (I.hok b u q).stay (fun d v _ y => hk d v y) (fun d y => kp d _ y) fun d xs y => kp d _ y
section
variable {X : Cx} {e1 e2 : Expr} {ta : TA} {p p2 pos pos2 : Pos}
theorem pe_listZip (hc : X.calm = true) (ha : PA X [e1, e2] ta) (hg : Gl X "list") (hm : X.mg "list" = none) (hg2 : Gl X "zip") (hm2 : X.mg "zip" = none)
    (hs : starEach [.Call (.Name "zip" p2) [e1, e2] [] pos2] X.env = (false, eval (.Call (.Name "zip" p2) [e1, e2] [] pos2) X.env) :: starEach [] X.env := by rfl)
    (he : starEach (e1 :: [e2]) X.env = (false, eval e1 X.env) :: starEach [e2] X.env := by rfl) (hpl : (backTo pos2 (starEach [e2] X.env)).any (·.1) = false := by rfl) :
    PE X (.Call (.Name "list" p) [.Call (.Name "zip" p2) [e1, e2] [] pos2] [] pos) (tListZip X.K ta) := by
  refine ⟨fun pins s σ H Q I hq => ?_⟩
  refine wpAny_Call_Name_kw (ld_blt I hg hm (show bootBuiltins "list" = some (.type "list") by decide +kernel) ?_)
  refine PyProof.Rows.callWith_type1 ?_ hs rfl
  rw [hs]
  show wpAny _ _ (spliced ((false, eval (.Call (.Name "zip" p2) [e1, e2] [] pos2) X.env) :: backTo pos (starEach [] X.env))) _ _ s
  refine Calls.spliced_cons ?_
  refine wpAny_Call_Name_kw (ld_blt I hg2 hm2 (show bootBuiltins "zip" = some (.type "zip") by decide +kernel) ?_)
  refine PyProof.Rows.callWith_type1 (thn (ha.run pos2 pins s σ H _ I hq) ?_) he hpl
  rintro us s1 ⟨vs, H1, I1, r, a, b, xs, ys, rfl, hx, hy, hlen, h1, q⟩
  obtain ⟨u, v, rfl, ru, rv⟩ := vals2 r
  obtain rfl : u = Value.ref a := ru
  obtain rfl : v = Value.ref b := rv
  obtain ⟨its, rx, px, zx⟩ := I1.tuple hx
  obtain ⟨jts, ry, py, zy⟩ := I1.list hy
  have py := py.isList
  have lx := rx.length
  have ly := ry.length
  refine zip_begins2 (begins_tuple a its.toArray) (begins_list b jts.toArray) px py fun h1' hz hTI hTO g1 g2 hsz hk => ?_
  refine Calls.spliced_nil ?_
  have la : a < s1.heap.objs.size := by
    obtain ⟨o, e, _⟩ := px
    exact Heap.lt_size e
  have lb : b < s1.heap.objs.size := by
    obtain ⟨o, e, _⟩ := py
    exact Heap.lt_size e
  have na : ∀ k : Nat, a ≠ s1.heap.objs.size + k := fun k => Nat.ne_of_lt (Nat.lt_of_lt_of_le la (Nat.le_add_right _ _))
  have nb : ∀ k : Nat, b ≠ s1.heap.objs.size + k := fun k => Nat.ne_of_lt (Nat.lt_of_lt_of_le lb (Nat.le_add_right _ _))
  generalize hN : s1.heap.objs.size = N at *
  have ne : ∀ i j : Nat, i ≠ j → N + i ≠ N + j := fun i j h z => h (Nat.add_left_cancel z)
  have n0 : ∀ j : Nat, 0 < j → N ≠ N + j := fun j h => Nat.ne_of_lt (Nat.lt_add_of_pos_right h)
  have D : ZAp (N + 4) (N + 2) (N + 3) N (N + 1) a b h1'.objs.size := by
    rw [hsz]
    refine ⟨⟨ne 2 4 (by decide), ne 3 4 (by decide), ne 2 3 (by decide), (n0 2 (by decide)).symm, by simp, ?_, ?_, ne 2 1 (by decide), by simp, ?_, ?_, ?_, ?_⟩, na 0, nb 1, ne 5 4 (by decide), ne 5 2 (by decide), ne 5 3 (by decide), (n0 5 (by decide)).symm, ne 5 1 (by decide), (na 5).symm, (nb 5).symm⟩
    · simp only [List.mem_cons, List.not_mem_nil, or_false, not_or]
      exact ⟨(n0 4 (by decide)).symm, (na 4).symm⟩
    · simp only [List.mem_cons, List.not_mem_nil, or_false, not_or]
      exact ⟨(n0 3 (by decide)).symm, (na 3).symm⟩
    · simp only [List.mem_cons, List.not_mem_nil, or_false, not_or]
      exact ⟨ne 4 1 (by decide), (nb 4).symm⟩
    · simp only [List.mem_cons, List.not_mem_nil, or_false, not_or]
      exact ⟨ne 3 1 (by decide), (nb 3).symm⟩
    · simp only [List.mem_cons, List.not_mem_nil, or_false, not_or]
      exact ⟨n0 1 (by decide), (nb 0).symm⟩
    · simp only [List.mem_cons, List.not_mem_nil, or_false, not_or]
      exact ⟨(n0 1 (by decide)).symm, (na 1).symm⟩
  have I2 : Inv X pins σ H1 { s1 with heap := h1' } := I1.kept (t' := s1.toks) hk
  have st : ZSt h1' (N + 4) (N + 2) (N + 3) N (N + 1) a b h1'.objs.size its.toArray jts.toArray 0 :=
    ⟨hTI, ⟨⟨_, g1, rfl, rfl⟩, Heap.IsTuple.at px (fun o e => hk _ _ e)⟩, ⟨⟨_, g2, rfl, rfl⟩, py.at fun o e => hk _ _ e⟩, .inl ⟨rfl, hz, _, _, hTO⟩⟩
  refine zt_call (s := { s1 with heap := h1' }) (I2.ok.hd hc) D (by simp only [List.size_toArray]; omega) (by simp only [List.size_toArray]; omega) (by simp only [List.size_toArray]; omega) st hz fun h' tk acc c as hk2 hS hl hG hacc => ?_
  have len : as.length = (xs.zip ys).length := by
    rw [hl, List.size_toArray, List.length_zip]
    omega
  have hp : ∀ (j : Nat) (t : Addr) (p : V × V), as[j]? = some t → (xs.zip ys)[j]? = some p → ∃ u v, RelV p.1 u ∧ RelV p.2 v ∧ h'.get? t = some { cls := .type "tuple", data := .seq #[u, v] } := fun j t p ht hp => by
    obtain ⟨x, y, e1, e2, e3⟩ := hG.pairs j t ht
    have h2 := List.getElem?_zip_eq_some.mp hp
    obtain ⟨u1, hu1, ru1⟩ := rx.get h2.1
    obtain ⟨u2, hu2, ru2⟩ := ry.get h2.2
    rw [List.getElem?_toArray, hu1] at e1
    rw [List.getElem?_toArray, hu2] at e2
    cases e1
    cases e2
    exact ⟨x, y, ru1, ru2, e3⟩
  have kk : ∀ b o, s1.heap.get? b = some o → h'.get? b = some o := fun b o e => by
    have lt := Heap.lt_size e
    rw [hN] at lt
    have n4 : b ≠ N + 4 := Nat.ne_of_lt (Nat.lt_of_lt_of_le lt (Nat.le_add_right N 4))
    have n3 : b ≠ N + 3 := Nat.ne_of_lt (Nat.lt_of_lt_of_le lt (Nat.le_add_right N 3))
    have n1 : b ≠ N + 1 := Nat.ne_of_lt (Nat.lt_of_lt_of_le lt (Nat.le_add_right N 1))
    exact hk2 b o n4 n3 (Nat.ne_of_lt lt) n1 (hk b o e)
  obtain ⟨J, k1, k2, k3, k4⟩ := laidP (s := s1) (h' := h') (tk := tk) I1 (ps := xs.zip ys) (S := h1'.objs.size) (by rw [List.length_zip]; omega) (by rw [hsz, hN]; exact Nat.le_add_right N 5) kk hS len hG.rise hG.above hp hacc
  exact ⟨.ref _, _, J, rfl, q _ as k1 k2 k3 k4 (by rw [hl, List.size_toArray, ← lx])⟩
end
end Mw
/-! ### more of what an expression yields -/
namespace Mw
open PySem PySem.Spec PyProof PyProof.Rows L2
def intsD (xs : List Int) : List PyData := xs.map .int
def strsD (xs : List Str) : List PyData := xs.map .str
theorem vals_int {K : PySem.W.Frag} {H : Hp} {vs : List V} : ∀ {xs : List Int}, DdAll K H vs (intsD xs) → vs = xs.map V.int := fun {xs} h => by
  have e : intsD xs = (xs.map (Sum.inl : Int → Key)).map keyD := by unfold intsD; rw [List.map_map] <;> rfl
  rw [e] at h
  rw [key_vals h, List.map_map] <;> rfl
theorem vals_str {K : PySem.W.Frag} {H : Hp} {vs : List V} : ∀ {xs : List Str}, DdAll K H vs (strsD xs) → vs = xs.map V.str := fun {xs} h => by
  have e : strsD xs = (xs.map (Sum.inr : Str → Key)).map keyD := by unfold strsD; rw [List.map_map] <;> rfl
  rw [e] at h
  rw [key_vals h, List.map_map] <;> rfl
theorem int_vals {K : PySem.W.Frag} {H : Hp} : ∀ (xs : List Int), DdAll K H (xs.map V.int) (intsD xs)
  | [] => .nil
  | x :: xs => .cons (.int x) (int_vals xs)
theorem str_vals {K : PySem.W.Frag} {H : Hp} : ∀ (xs : List Str), DdAll K H (xs.map V.str) (strsD xs)
  | [] => .nil
  | x :: xs => .cons (.str x) (str_vals xs)
section
variable {K : PySem.W.Frag} {U : Wo} {W : Wd} {M : Hp} {σ : L2.St} {n k k0 m : Nat} {te ta tb : TE} {t : TA} {tt tu : TT} {D : Ends} {H : Hp}
/-! sorted -/
theorem e1_srtI {d : PyData} {xs : List Int} (h : E1 K U M te σ d) (hd : d = .list (intsD xs) ∨ d = .tuple (intsD xs)) (hl : xs.length ≤ 100000) : E1 K U M (tCB (rSrtI K) (tCons te tNil)) σ (.list (intsD (srtI xs))) := fun n H a Q q => h n H a _ fun v H1 ok1 s1 d1 => by
  have out : ∀ (a : Addr), v = .ref a → (SqL K H1 a (xs.map V.int) ∨ SqT K H1 a (xs.map V.int)) → (rSrtI K) [v] H1 Q := fun a e hs => ⟨a, xs, by rw [e], hs, thousand hl, fun ys p hp hs np => by
    obtain ⟨ok2, s2, f2, _⟩ := U.new (o := .lst (ys.map V.int)) ok1 np rfl
    rw [srtI_eq hp hs] at ok2 s2 f2 ⊢
    exact q _ _ ok2 (s1.trans s2) (.lst f2 (int_vals _))⟩
  rcases hd with rfl | rfl
  · cases d1 with
    | lst hq ha => exact out _ rfl (.inl (.inl (.inl (U.le _ _ _ (vals_int ha ▸ hq)))))
  · cases d1 with
    | tup hq ha => exact out _ rfl (.inr (seqT (U.le _) (vals_int ha ▸ hq)))
/-- names in their order: r ranks those of D -/
structure Asc (r : Str → Int) (D : List Str) (names : List Str) : Prop where
  lt : ∀ x ∈ D, ∀ y ∈ D, ltCps x.cps.toList y.cps.toList = decide (r x < r y)
  inj : ∀ x ∈ D, ∀ y ∈ D, r x = r y → x = y
  mem : ∀ x ∈ names, x ∈ D
  asc : names.Pairwise (fun x y => r x ≤ r y)
theorem Asc.eq {r : Str → Int} {D names ys : List Str} (A : Asc r D names) (p : ys.Perm names) (h : sortedS ys = true) : ys = names := by
  have my : ∀ x ∈ ys, x ∈ D := fun x hx => A.mem x (p.mem_iff.mp hx)
  exact srt_uniq r p (sortedS_rank A.lt my h) A.asc fun x hx y hy e => A.inj x (my x hx) y (my y hy) e
theorem e1_srtS {r : Str → Int} {D names : List Str} {d : PyData} {xs : List Str} (A : Asc r D names) (p : xs.Perm names) (h : E1 K U M te σ d) (hd : d = .list (strsD xs) ∨ d = .tuple (strsD xs)) (hl : xs.length < 64) :
    E1 K U M (tCB (rSrtS K) (tCons te tNil)) σ (.list (strsD names)) := fun n H a Q q => h n H a _ fun v H1 ok1 s1 d1 => by
  have out : ∀ (a : Addr), v = .ref a → (SqL K H1 a (xs.map V.str) ∨ SqT K H1 a (xs.map V.str)) → (rSrtS K) [v] H1 Q := fun a e hs => ⟨a, xs, by rw [e], hs, hl, fun ys q2 hp hs np => by
    obtain ⟨ok2, s2, f2, _⟩ := U.new (o := .lst (ys.map V.str)) ok1 np rfl
    rw [A.eq (hp.trans p) hs] at ok2 s2 f2 ⊢
    exact q _ _ ok2 (s1.trans s2) (.lst f2 (str_vals _))⟩
  rcases hd with rfl | rfl
  · cases d1 with
    | lst hq ha => exact out _ rfl (.inl (.inl (.inl (U.le _ _ _ (vals_str ha ▸ hq)))))
  · cases d1 with
    | tup hq ha => exact out _ rfl (.inr (seqT (U.le _) (vals_str ha ▸ hq)))
/-- packets -/
def pkD (p : List Int) : PyData := .tuple (intsD p)
def pksD (ps : List (List Int)) : PyData := .list (ps.map pkD)
theorem pk_vals {H : Hp} : ∀ {vs : List V} {ps : List (List Int)}, DdAll K H vs (ps.map pkD) → (∀ v ∈ vs, ∃ p ∈ ps, TupI K H v p) ∧ vs.length = ps.length
  | [], [], _ => ⟨fun _ h => (nomatch h), rfl⟩
  | v :: vs, p :: ps, h => by
    cases h with
    | cons a b =>
      obtain ⟨i1, i2⟩ := pk_vals b
      refine ⟨fun u hu => ?_, by rw [List.length_cons, List.length_cons, i2]⟩
      rcases List.mem_cons.mp hu with rfl | hu
      · cases a with
        | tup hq ha => exact ⟨p, List.mem_cons_self .., _, rfl, vals_int ha ▸ hq⟩
      · obtain ⟨q, hq, t⟩ := i1 u hu
        exact ⟨q, List.mem_cons_of_mem _ hq, t⟩
  | [], _ :: _, h => by cases h
  | _ :: _, [], h => by cases h
theorem TupI.same {H H' : Hp} {v : V} {p : List Int} (h : TupI K H v p) (e : Same H H') : TupI K H' v p := by
  obtain ⟨t, e1, h⟩ := h
  exact ⟨t, e1, seqT e h⟩
theorem perm_mapG {α β : Type} (f : α → β) {es ms : List β} (h : es.Perm ms) : ∀ {l : List α}, ms = l.map f → ∃ l' : List α, l'.Perm l ∧ es = l'.map f := by
  induction h with
  | nil => exact fun {l} e => ⟨l, List.Perm.refl _, e⟩
  | cons x p ih =>
    intro l e
    cases l with
    | nil => cases e
    | cons y l =>
      rw [List.map_cons] at e
      obtain ⟨e1, e2⟩ := List.cons.inj e
      obtain ⟨l', p', e'⟩ := ih e2
      exact ⟨y :: l', p'.cons _, by rw [List.map_cons, e1, e']⟩
  | swap x y l0 =>
    intro l e
    cases l with
    | nil => cases e
    | cons a l =>
      rw [List.map_cons] at e
      obtain ⟨e1, e2⟩ := List.cons.inj e
      cases l with
      | nil => cases e2
      | cons b l =>
        rw [List.map_cons] at e2
        obtain ⟨e3, e4⟩ := List.cons.inj e2
        exact ⟨b :: a :: l, List.Perm.swap _ _ _, by rw [List.map_cons, List.map_cons, e1, e3, e4]⟩
  | trans p1 p2 ih1 ih2 =>
    intro l e
    obtain ⟨l1, q1, e1⟩ := ih2 e
    obtain ⟨l2, q2, e2⟩ := ih1 e1
    exact ⟨l2, q2.trans q1, e2⟩
theorem pk_asc {B : Int} {H : Hp} : ∀ {vs : List V} {ps : List (List Int)}, vs.Pairwise (fun x y => ∀ n m, TupI K H x n → TupI K H y m → TS.code B n ≤ TS.code B m) → DdAll K H vs (ps.map pkD) → ps.Pairwise (fun x y => TS.code B x ≤ TS.code B y)
  | _, [], _, _ => .nil
  | [], _ :: _, _, h => by cases h
  | v :: vs, p :: ps, hv, h => by
    obtain ⟨v1, v2⟩ := List.pairwise_cons.mp hv
    cases h with
    | cons a b =>
      refine List.pairwise_cons.mpr ⟨fun q hq => ?_, pk_asc v2 b⟩
      obtain ⟨j, hj⟩ := List.mem_iff_getElem?.mp hq
      have hj' : (ps.map pkD)[j]? = some (pkD q) := by rw [List.getElem?_map, hj] <;> rfl
      have lt : j < vs.length := by
        rw [b.len, List.length_map]
        exact (List.getElem?_eq_some_iff.mp hj).1
      obtain ⟨e, he, de⟩ := b.at (List.getElem?_eq_getElem lt)
      rw [hj'] at he
      cases he
      cases a with
      | tup q1 a1 =>
        refine v1 _ (List.getElem_mem lt) p q ⟨_, rfl, vals_int a1 ▸ q1⟩ ?_
        generalize vs[j] = u at de
        cases de with
        | tup q2 a2 => exact ⟨_, rfl, vals_int a2 ▸ q2⟩
/-- sorted of packets: ps is their order -/
theorem e1_srtT {B : Int} {d : Nat} {qs ps : List (List Int)} (hd : 1 ≤ d) (ok : PkOk B d ps) (p : qs.Perm ps) (h : E1 K U M te σ (pksD qs)) : E1 K U M (tCB (rSrtT K d B) (tCons te tNil)) σ (pksD ps) := fun n H a Q q => h n H a _ fun v H1 ok1 s1 d1 => by
  unfold pksD at d1
  cases d1 with
  | lst hq ha =>
    obtain ⟨i1, i2⟩ := pk_vals ha
    refine ⟨_, _, rfl, .inl (.inl (U.le _ _ _ hq)), fun x hx => ?_, fun ys a' hp hs np => ?_⟩
    · obtain ⟨e, he, t⟩ := i1 x hx
      have := ok.1 e (p.mem_iff.mp he)
      exact ⟨e, TupI.same t (U.le _), this.1, this.2⟩
    · obtain ⟨ok2, s2, f2, _⟩ := U.new (o := .lst ys) ok1 np rfl
      obtain ⟨es, e1, e2⟩ := DdAll.perm hp ha
      have e3 : es.Perm (ps.map pkD) := e1.trans (p.map _)
      obtain ⟨rs, hrs, rfl⟩ := perm_mapG pkD e3 rfl
      have asc : rs.Pairwise (fun x y => TS.code B x ≤ TS.code B y) := pk_asc hs (e2.same (U.le _))
      have e4 : rs = ps := srt_uniq (TS.code B) hrs asc (ok.2.imp fun {x y} h => Int.le_of_lt h) fun x hx y hy e => by
        have a1 := ok.1 x (hrs.mem_iff.mp hx)
        have a2 := ok.1 y (hrs.mem_iff.mp hy)
        exact code_inj (a1.1.trans a2.1.symm) a1.2 a2.2 e
      subst e4
      exact q _ _ ok2 (s1.trans s2) (.lst f2 (e2.same s2))
end
end Mw
namespace Mw
open PySem PySem.Spec PyProof PyProof.Rows L2
/-! ### new pairs in a world -/
theorem wo_putP {U : Wo} {n : Nat} : ∀ (ts : List Addr) (ps : List (V × V)) (H : Hp), U.ok n H → (∀ t ∈ ts, H t = none) → ts.Nodup → ts.length = ps.length →
    U.ok n (putP H ts ps) ∧ Same (U.view H) (U.view (putP H ts ps)) ∧ ∀ (j : Nat) (t : Addr), ts[j]? = some t → ∃ p, ps[j]? = some p ∧ U.view (putP H ts ps) t = some (.tup [p.1, p.2])
  | [], [], H, ok, _, _, _ => ⟨ok, Same.refl _, fun j t h => by simp at h⟩
  | [], _ :: _, _, _, _, _, h => by cases h
  | _ :: _, [], _, _, _, _, h => by cases h
  | t :: ts, p :: ps, H, ok, hn, nd, hl => by
    obtain ⟨n1, n2⟩ := List.nodup_cons.mp nd
    obtain ⟨ok1, s1, f1, _⟩ := U.new (o := .tup [p.1, p.2]) ok (hn t (List.mem_cons_self ..)) rfl
    obtain ⟨ok2, s2, at2⟩ := wo_putP ts ps (upd H t (.tup [p.1, p.2])) ok1 (fun u hu => by
      have ne : u ≠ t := fun z => n1 (z ▸ hu)
      rw [upd_ne ne]
      exact hn u (List.mem_cons_of_mem _ hu)) n2 (Nat.succ.inj hl)
    refine ⟨ok2, s1.trans s2, fun j u hu => ?_⟩
    cases j with
    | zero =>
      cases hu
      exact ⟨p, rfl, s2 _ _ f1⟩
    | succ j => exact at2 j u hu
theorem dd_pairs {K : PySem.W.Frag} {H H' : Hp} (e : Same H H') : ∀ (ts : List Addr) (ps : List (V × V)) (ds es : List PyData), DdAll K H (ps.map (·.1)) ds → DdAll K H (ps.map (·.2)) es → ts.length = ps.length →
    (∀ (j : Nat) (t : Addr), ts[j]? = some t → ∃ p, ps[j]? = some p ∧ H' t = some (.tup [p.1, p.2])) → DdAll K H' (ts.map V.ref) (List.zipWith (fun d e => .tuple [d, e]) ds es)
  | [], [], _, _, hd, he, _, _ => by
    cases hd
    cases he
    exact .nil
  | [], _ :: _, _, _, _, _, h, _ => by cases h
  | _ :: _, [], _, _, _, _, h, _ => by cases h
  | t :: ts, p :: ps, _, _, hd, he, hl, h => by
    cases hd with
    | cons d1 d2 =>
      cases he with
      | cons e1 e2 =>
        refine .cons ?_ (dd_pairs e ts ps _ _ d2 e2 (Nat.succ.inj hl) fun j u hu => h (j + 1) u hu)
        obtain ⟨q, hq, f⟩ := h 0 t rfl
        cases hq
        exact .tup (.inl (.inl f)) (.cons (d1.same e) (.cons (e1.same e) .nil))
section
variable {K : PySem.W.Frag} {U : Wo} {W : Wd} {M : Hp} {σ : L2.St} {n k k0 m : Nat} {te ta tb : TE} {t : TA} {tt tu : TT} {D : Ends} {H : Hp}
/-- list(zip(x, y)) -/
theorem e1_listZip {ds es : List PyData} (h : A1 K U M t σ [.tuple ds, .list es]) (hl : ds.length = es.length) (h1 : 1 ≤ ds.length) : E1 K U M (tListZip K t) σ (.list (List.zipWith (fun d e => .tuple [d, e]) ds es)) := fun n H a Q q => h n H a _ fun vs H1 ok1 s1 d1 => by
  cases d1 with
  | cons x1 d2 =>
    cases d2 with
    | cons x2 d3 =>
      cases d3
      cases x1 with
      | tup q1 a1 =>
        cases x2 with
        | lst q2 a2 =>
          have l1 := a1.len
          have l2 := a2.len
          refine ⟨_, _, _, _, rfl, seqT (U.le _) q1, .inl (.inl (U.le _ _ _ q2)), by omega, by omega, fun p ts np nt npt nd hts => ?_⟩
          rename_i b2 xs b3 ys
          obtain ⟨ok2, s2, f2, _⟩ := U.new (o := .lst (ts.map V.ref)) ok1 np rfl
          obtain ⟨ok3, s3, at3⟩ := wo_putP ts (xs.zip ys) (upd H1 p (.lst (ts.map V.ref))) ok2 (fun u hu => by
            have ne : u ≠ p := fun z => npt (z ▸ hu)
            rw [upd_ne ne]
            exact nt u hu) nd (by rw [List.length_zip]; omega)
          refine q _ _ ok3 ((s1.trans s2).trans s3) (.lst (s3 _ _ f2) (dd_pairs (s2.trans s3) ts (xs.zip ys) ds es ?_ ?_ (by rw [List.length_zip]; omega) at3))
          · rw [show (xs.zip ys).map (·.1) = xs from List.map_fst_zip (by omega)]
            exact a1
          · rw [show (xs.zip ys).map (·.2) = ys from List.map_snd_zip (by omega)]
            exact a2
/-! list(d.items()) -/
end
def tListItemsP (te : TE) : TE := fun σ H Q => te σ H fun x H1 => ∃ (d : Addr) (kvs : List (Key × V)), x = .ref d ∧ H1 d = some (.dK kvs) ∧
  ∀ (p : Addr) (ts : List Addr), H1 p = none → (∀ t ∈ ts, H1 t = none) → p ∉ ts → ts.Nodup → ts.length = kvs.length → Q (.ref p) (putP (upd H1 p (.lst (ts.map V.ref))) ts (kvs.map fun q => (kV q.1, q.2)))
theorem pe_listItemsP {X : Cx} {e : Expr} {te : TE} {p apos cpos pos : Pos} (hc : X.calm = true) (he : PE X e te) (hg : Gl X "list") (hm : X.mg "list" = none) (hbase : attributeBase e "items" X.env (eval e X.env) = eval e X.env := by rfl) (hline : (apos.endLine == cpos.line) = true := by rfl)
    (hs : starEach [.Call (.Attribute e "items" apos) [] [] cpos] X.env = (false, eval (.Call (.Attribute e "items" apos) [] [] cpos) X.env) :: starEach [] X.env := by rfl) :
    PE X (.Call (.Name "list" p) [.Call (.Attribute e "items" apos) [] [] cpos] [] pos) (tListItemsP te) := by
  refine ⟨fun pins s σ H Q I hq => ?_⟩
  refine wpAny_Call_Name_kw (ld_blt I hg hm (show bootBuiltins "list" = some (.type "list") by decide +kernel) ?_)
  refine PyProof.Rows.callWith_type1 ?_ hs rfl
  rw [hs]
  show wpAny _ _ (spliced ((false, eval (.Call (.Attribute e "items" apos) [] [] cpos) X.env) :: backTo pos (starEach [] X.env))) _ _ s
  refine Calls.spliced_cons ?_
  refine wpAny_Call_method (T := "dict") (id := "dict.items") hbase rfl hline F.plainAttrs_dict F.slot_dict_items F.type_dict_items (thn (he.run pins s σ H _ I hq) fun u s1 ⟨x, H1, I1, rx, d, kvs, ex, hd, q⟩ => ?_)
  subst ex
  obtain rfl : u = Value.ref d := rx
  obtain ⟨hz, hs0, vs, kv, hdo⟩ := I1.hok d _ hd
  obtain ⟨ep, hat⟩ := hdo.dictAt
  have lk : kvs.length = vs.length := Paired.length kv
  have I2 : Inv X pins σ H1 { s1 with heap := s1.heap.push { cls := .type "dict_items", data := .fields #[.ref d] } } := I1.kept (t' := s1.toks) fun b ob q => Heap.get?_push_of_some _ q
  refine ⟨hdo.typeIs, hdo.mapOf.noDict, ?_⟩
  show wpAny _ _ (callWith cpos (.builtin "dict.items") [.ref d] [] []) _ X.xe s1
  refine method_meetsIn F.slot_dict_items F.entry_dict_items rfl (PySem.evalArgs_none ⟨rfl, hdo.typeIs, F.args_dict_items_1 _, _, meets_dict_items (mixKind X.prog X.w) d hs0, ⟨vs, hdo⟩, ?_⟩)
  refine Calls.spliced_nil ?_
  refine PySem.W.kdx_call (knd := mixKind X.prog X.w) (kvs := vs) (ep := ep) (I1.ok.hd hc) ⟨_, Heap.get?_push_size _ rfl, rfl, rfl⟩ (hat.push _) (by omega) fun h' tk acc c as hk hS hl hG hacc => ?_
  have hp : ∀ (j : Nat) (t : Addr) (p : V × V), as[j]? = some t → (kvs.map fun q => (kV q.1, q.2))[j]? = some p → ∃ u v, RelV p.1 u ∧ RelV p.2 v ∧ h'.get? t = some { cls := .type "tuple", data := .seq #[u, v] } := fun j t p ht hp => by
    obtain ⟨key, kk, x, f1, f2, f3⟩ := hG.pairs j t ht
    rw [List.getElem?_map] at hp
    obtain ⟨q0, hq0, rfl⟩ := Option.map_eq_some_iff.mp hp
    obtain ⟨y, g1, g2⟩ := LiI.paired_get kv hq0
    rw [f1] at g1
    cases g1
    exact ⟨key, x, by rw [g2.1]; exact relV_key (show keyIs kk key = true from f2), g2.2, f3⟩
  obtain ⟨J, k1, k2, k3, k4⟩ := laidP (s := { s1 with heap := s1.heap.push { cls := .type "dict_items", data := .fields #[.ref d] } }) (h' := h') (tk := tk) I2 (ps := kvs.map fun q => (kV q.1, q.2)) (by rw [List.length_map]; exact hz) (Nat.le_refl _) hk hS (by rw [List.length_map]; omega) hG.rise hG.above hp hacc
  exact ⟨.ref _, _, J, rfl, q _ as k1 k2 k3 k4 (by omega)⟩
section
variable {K : PySem.W.Frag} {U : Wo} {W : Wd} {M : Hp} {σ : L2.St} {n k k0 m : Nat} {te ta tb : TE} {t : TA} {tt tu : TT} {D : Ends} {H : Hp}
theorem e1_listItems {ps : List (PyData × PyData)} (h : E1 K U M te σ (.dict ps)) : E1 K U M (tListItemsP te) σ (.list (List.zipWith (fun d e => .tuple [d, e]) (ps.map (·.1)) (ps.map (·.2)))) := fun n H a Q q => h n H a _ fun v H1 ok1 s1 d1 => by
  cases d1 with
  | dic hq hk hv =>
    rename_i b kvs
    have lk : kvs.length = ps.length := by
      have := hk.len
      rwa [List.length_map, List.length_map] at this
    refine ⟨_, _, rfl, U.le _ _ _ hq, fun p ts np nt npt nd hts => ?_⟩
    obtain ⟨ok2, s2, f2, _⟩ := U.new (o := .lst (ts.map V.ref)) ok1 np rfl
    obtain ⟨ok3, s3, at3⟩ := wo_putP ts (kvs.map fun q => (kV q.1, q.2)) (upd H1 p (.lst (ts.map V.ref))) ok2 (fun u hu => by
      have ne : u ≠ p := fun z => npt (z ▸ hu)
      rw [upd_ne ne]
      exact nt u hu) nd (by rw [List.length_map]; omega)
    refine q _ _ ok3 ((s1.trans s2).trans s3) (.lst (s3 _ _ f2) (dd_pairs (s2.trans s3) ts (kvs.map fun q => (kV q.1, q.2)) _ _ ?_ ?_ (by rw [List.length_map]; omega) at3))
    · rw [List.map_map]
      exact hk
    · rw [List.map_map]
      exact hv
/-! a starred item -/
theorem a1_star {d : PyData} {ds es : List PyData} (h : E1 K U M te σ d) (hd : d = .list ds ∨ d = .tuple ds) (hs : A1 K U M t σ es) : A1 K U M (StX.tStar K te t) σ (ds ++ es) := fun n H a Q q =>
  h n H a _ fun v H1 ok1 s1 d1 => by
    rcases hd with rfl | rfl
    · cases d1 with
      | lst hq ha => exact ⟨_, _, rfl, .inr (.inl (.inl (U.le _ _ _ hq))), hs n H1 (a.step ok1 s1) _ fun vs H2 ok2 s2 d2 => q _ H2 ok2 (s1.trans s2) ((ha.same s2).app d2)⟩
    · cases d1 with
      | tup hq ha => exact ⟨_, _, rfl, .inl (seqT (U.le _) hq), hs n H1 (a.step ok1 s1) _ fun vs H2 ok2 s2 d2 => q _ H2 ok2 (s1.trans s2) ((ha.same s2).app d2)⟩
/-- xs[:e] -/
theorem e1_slTo {ds : List PyData} {j : Nat} (h : E1 K U M te σ (.list ds)) (hj : E1 K U M ta σ (.int j)) : E1 K U M (tSl (rSlL K) te tNoPart (tPart ta)) σ (.list (ds.take j)) := fun n H a Q q => h n H a _ fun v H1 ok1 s1 d1 =>
  hj n H1 (a.step ok1 s1) _ fun u H2 ok2 s2 d2 => by
    cases d2
    cases d1 with
    | lst hq ha =>
      refine ⟨_, rfl, _, _, rfl, .inl (.inl (U.le _ _ _ (s2 _ _ hq))), fun p np => ?_⟩
      obtain ⟨ok3, s3, f3, _⟩ := U.new ok2 np rfl
      refine q _ _ ok3 ((s1.trans s2).trans s3) (.lst f3 ?_)
      have e : cutD ds none (some (j : Int)) = ds.take j := by
        unfold cutD
        rw [HT.sIx_none, HT.sIx_nat, Nat.sub_zero, List.drop_zero]
        by_cases h : j ≤ ds.length
        · rw [Nat.min_eq_left h]
        · rw [Nat.min_eq_right (by omega), List.take_of_length_le (Nat.le_refl _), List.take_of_length_le (by omega)]
      rw [← e]
      exact ((ha.cut none (some (j : Int))).same s2).same s3
/-! a for, its promise told of the heap too -/
theorem s1_forH {wi : TI} {j : Nat} {ds : List PyData} {tb : TS} (a : At U n M H) (h : I1 K U M wi σ ds) (Pv : Nat → L2.St → Hp → Prop) (h0 : ∀ H', U.ok n H' → Same (U.view H) (U.view H') → Pv 0 σ H')
    (hs : ∀ i σ' H' v d (N : L2.St → Hp → Prop), ds[i]? = some d → Pv i σ' H' → At U n M H' → Same (U.view H) (U.view H') → Dd K (U.view H') v d → (∀ σ2 H2, Pv (i + 1) σ2 H2 → At U n M H2 → Same (U.view H') (U.view H2) → N σ2 H2) →
      tb { D with nx := N, ct := N, bk := D.nx } (σ'.set j (some v)) H')
    (hd : ∀ σ' H', Pv ds.length σ' H' → At U n M H' → Same (U.view H) (U.view H') → D.nx σ' H') : tFor wi (gName j) tb D σ H :=
  h n H a _ fun J H1 ok1 s1 w => by
    refine for_it w (fun i σ' H' => Pv i σ' H' ∧ At U n M H' ∧ Same (U.view H1) (U.view H')) ⟨h0 _ ok1 s1, a.step ok1 s1, Same.refl _⟩ (fun i σ' H' _ z => z.2.2) ?_ ?_
    · rintro i x σ' H2 H3 hi ⟨pv, a2, s2⟩ ⟨rfl, d, hd, dx⟩
      exact hs i σ' H3 x d _ hd pv a2 (s1.trans s2) (dx.same s2) fun σ2 H4 p2 a4 s4 => ⟨p2, a4, s2.trans s4⟩
    · rintro σ' H2 ⟨pv, a2, s2⟩
      exact hd _ _ pv a2 (s1.trans s2)
end
end Mw
namespace Mw
open PySem PySem.Spec PyProof PyProof.Rows L2
section
variable {K : PySem.W.Frag} {U : Wo} {W : Wd} {M : Hp} {σ : L2.St} {n k k0 m : Nat} {te ta tb : TE} {t : TA} {tt tu : TT} {D : Ends} {H : Hp}
/-- a new object -/
def New (U : Wo) (H : Hp) (v : V) : Prop := ∀ a, v = .ref a → U.view H a = none
theorem New.back {U : Wo} {H H' : Hp} {v : V} (h : New U H' v) (s : Same (U.view H) (U.view H')) : New U H v := fun a e => by
  cases z : U.view H a with
  | none => rfl
  | some o =>
    have := s _ _ z
    rw [h a e] at this
    cases this
theorem new_none {U : Wo} {H : Hp} {a : Addr} (h : H a = none) : New U H (.ref a) := fun b e => by
  cases e
  cases z : U.view H a with
  | none => rfl
  | some o =>
    rw [U.le _ _ _ z] at h
    cases h
/-- te yields the data d, a new object -/
def E1N (K : PySem.W.Frag) (U : Wo) (M : Hp) (te : TE) (σ : L2.St) (d : PyData) : Prop := ∀ n H, At U n M H → ∀ Q : VK, (∀ v H', U.ok n H' → Same (U.view H) (U.view H') → Dd K (U.view H') v d → New U H v → Q v H') → te σ H Q
theorem E1N.e1 {d : PyData} (h : E1N K U M te σ d) : E1 K U M te σ d := fun n H a Q q => h n H a Q fun v H' ok s dd _ => q v H' ok s dd
theorem E1N.is {d e : PyData} (h : E1N K U M te σ d) (z : d = e) : E1N K U M te σ e := z ▸ h
theorem e1_lstN {ds : List PyData} (h : A1 K U M t σ ds) (z : ds.length ≤ 100000) : E1N K U M (tLst t) σ (.list ds) := fun n H a Q q =>
  h n H a _ fun vs H1 ok1 s1 d1 => ⟨thousand (d1.len ▸ z), fun p np => by
    obtain ⟨ok2, s2, f2, _⟩ := U.new (o := .lst vs) ok1 np rfl
    exact q _ _ ok2 (s1.trans s2) (.lst f2 (d1.same s2)) ((new_none np).back s1)⟩
theorem s1_asgN {i : Nat} {d : PyData} (a : At U n M H) (h : E1N K U M te σ d) (q : ∀ v H', At U n (U.view H') H' → Same (U.view H) (U.view H') → Dd K (U.view H') v d → New U H v → D.nx (σ.set i (some v)) H') : tAsg te (gName i) D σ H :=
  h n H a _ fun v H1 ok1 s1 d1 nw => q v H1 (At.here ok1) s1 d1 nw
/-- [e for x in xs for y in ys] -/
theorem e1_lc2N {wi wi1 : TI} {j j1 : Nat} {vs vs1 : List Nat} {ds es : List PyData} {f : PyData → PyData → PyData} (h : I1 K U M wi σ ds) (z : ds.length * es.length ≤ 100000)
    (hw : ∀ x, wipe ((wipe σ vs).set j (some x)) vs = wipe σ vs)
    (hw1 : ∀ x y, wipe ((wipe ((wipe σ vs).set j (some x)) vs1).set j1 (some y)) vs1 = wipe ((wipe σ vs).set j (some x)) vs1)
    (hi : ∀ (U' : Wo) M' v d, Same M M' → d ∈ ds → Dd K M' v d → I1 K U' M' wi1 ((wipe σ vs).set j (some v)) es)
    (he : ∀ (U' : Wo) M' v u d e, Same M M' → d ∈ ds → e ∈ es → Dd K M' v d → Dd K M' u e → E1 K U' M' te ((wipe ((wipe σ vs).set j (some v)) vs1).set j1 (some u)) (f d e)) :
    E1N K U M (tLc2 wi (gName j) tYes wi1 (gName j1) tYes te vs vs1) σ (.list (ds.flatMap fun d => es.map (f d))) := fun n H a Q q => h n H a _ fun J H1 ok1 s1 w => by
  intro D nD
  have a1 : At U n M H1 := a.step ok1 s1
  have nD0 : U.view H1 D = none := by
    cases e : U.view H1 D with
    | none => rfl
    | some o =>
      rw [U.le _ _ _ e] at nD
      cases nD
  have off : Same (U.view H1) (hideV D (U.view H1)) := fun b o e => hide_at e (fun q => by
    rw [q, nD0] at e
    cases e)
  have lenF : ∀ l : List PyData, (l.flatMap fun d => es.map (f d)).length = l.length * es.length := fun l => by
    induction l with
    | nil => simp
    | cons d l ih => rw [List.flatMap_cons, List.length_append, ih, List.length_map, List.length_cons, Nat.add_mul, Nat.one_mul, Nat.add_comm]
  let Iv : Nat → Hp → Prop := fun i H' => U.ok n H' ∧ Same (U.view H1) (hideV D (U.view H')) ∧ ∃ acc, U.view H' D = some (.lst acc) ∧ DdAll K (hideV D (U.view H')) acc ((ds.take i).flatMap fun d => es.map (f d))
  obtain ⟨okD, sD, fD, _⟩ := U.new (o := .lst []) ok1 nD rfl
  refine ⟨fun i m H' => m = ds.length - i ∧ i ≤ ds.length ∧ Iv i H', ⟨ds.length, by simp, Nat.zero_le _, okD, off.trans (hide_same sD), [], fD, .nil⟩, ?_⟩
  rintro i m H2 ⟨rfl, hi0, ok2, s2, acc, f2, da⟩
  have g2 : Same (U.view H1) (U.view H2) := s2.trans (hide_le _ _)
  by_cases hlt : i < ds.length
  · refine .inr ⟨w.goes i H2 hlt g2, Iv (i + 1), fun H' p' => ⟨ds.length - (i + 1), by omega, rfl, hlt, p'⟩, fun x H3 y => ?_⟩
    obtain ⟨rfl, d, hd, dx⟩ := w.yields i H2 x H3 hlt g2 y
    have hm : d ∈ ds := List.mem_of_getElem? hd
    refine ⟨hw x, ?_⟩
    refine rd_yes (iteT ?_)
    have aP : At (U.hide D (.lst acc)) n (U.view H1) H3 := ⟨⟨ok2, f2⟩, s2⟩
    refine hi (U.hide D (.lst acc)) (U.view H1) x d a1.up hm dx n H3 aP _ fun J1 H4 ok4 s4 w1 => ?_
    have st : ((ds.take (i + 1)).flatMap fun d => es.map (f d)) = ((ds.take i).flatMap fun d => es.map (f d)) ++ es.map (f d) := by
      rw [List.take_add_one, hd, List.flatMap_append]
      simp
    have s4' : Same (hideV D (U.view H3)) (hideV D (U.view H4)) := s4
    let Jv : Nat → Hp → Prop := fun k H' => U.ok n H' ∧ Same (hideV D (U.view H4)) (hideV D (U.view H')) ∧ ∃ acc, U.view H' D = some (.lst acc) ∧ DdAll K (hideV D (U.view H')) acc (((ds.take i).flatMap fun d => es.map (f d)) ++ (es.take k).map (f d))
    refine ⟨fun k m H' => m = es.length - k ∧ k ≤ es.length ∧ Jv k H', ⟨es.length, by simp, Nat.zero_le _, ok4.1, Same.refl _, acc, ok4.2, ?_⟩, ?_⟩
    · rw [List.take_zero, List.map_nil, List.append_nil]
      exact da.same s4'
    rintro k m H5 ⟨rfl, hk, ok5, s5, acc5, f5, da5⟩
    by_cases hlt1 : k < es.length
    · refine .inr ⟨w1.goes k H5 hlt1 s5, Jv (k + 1), fun H' p' => ⟨es.length - (k + 1), by omega, rfl, hlt1, p'⟩, fun y H6 yy => ?_⟩
      obtain ⟨rfl, e, hei, ey⟩ := w1.yields k H5 y H6 hlt1 s5 yy
      have hme : e ∈ es := List.mem_of_getElem? hei
      refine ⟨hw1 x y, ?_⟩
      refine rd_yes (iteT ?_)
      have up5 : Same (U.view H1) (hideV D (U.view H6)) := (s2.trans s4').trans s5
      refine he (U.hide D (.lst acc5)) (hideV D (U.view H6)) x y d e (a1.up.trans up5) hm hme (dx.same up5) (show Dd K (hideV D (U.view H6)) y e from (show Dd K (hideV D (U.view H4)) y e from ey).same s5) n H6 ⟨⟨ok5, f5⟩, Same.refl _⟩ _ fun u H7 ok7 s7 du => ?_
      have hl : acc5.length ≤ 100000 := by
        rw [da5.len, List.length_append, lenF, List.length_map, List.length_take, List.length_take]
        have e1 : min i ds.length = i := Nat.min_eq_left (by omega)
        have e2 : min k es.length = k := Nat.min_eq_left hk
        rw [e1, e2]
        have := Nat.mul_le_mul_right es.length (show i + 1 ≤ ds.length by omega)
        rw [Nat.add_mul, Nat.one_mul] at this
        omega
      refine ⟨acc5, U.le _ _ _ ok7.2, Nat.lt_of_le_of_lt hl (by decide), ?_⟩
      obtain ⟨ok8, f8, o8⟩ := U.own (o := .lst (acc5 ++ [u])) ok7.1 ok7.2 rfl
      have k8 : Same (hideV D (U.view H7)) (hideV D (U.view (upd H7 D (.lst (acc5 ++ [u]))))) := fun b v e => hide_at (o8 b v (hide_of e).1 (hide_of e).2) (hide_of e).1
      have s7' : Same (hideV D (U.view H6)) (hideV D (U.view H7)) := s7
      refine ⟨ok8, (s5.trans s7').trans k8, _, f8, ?_⟩
      have st1 : (es.take (k + 1)).map (f d) = (es.take k).map (f d) ++ [f d e] := by
        rw [List.take_add_one, hei, List.map_append]
        rfl
      rw [st1, ← List.append_assoc]
      exact ((da5.same s7').same k8).app (.cons ((show Dd K (hideV D (U.view H7)) u _ from du).same k8) .nil)
    · have e : k = es.length := by omega
      subst e
      rw [List.take_length] at da5
      exact .inl ⟨w1.stops H5 s5, ok5, (s2.trans s4').trans s5, acc5, f5, by rw [st]; exact da5⟩
  · have e : i = ds.length := by omega
    subst e
    rw [List.take_length] at da
    exact .inl ⟨w.stops H2 g2, q _ _ ok2 (s1.trans g2) (.lst f2 (da.same (hide_le _ _))) ((new_none nD).back s1)⟩
/-! a dict whose keys are walked -/
end
section
variable {K : PySem.W.Frag} {H : Hp} {D : Addr} {od : Obj} {kvs : List (Key × V)}
mutual
theorem Dd.off (hD : H D = some (.frz od (.dK kvs))) : ∀ {v : V} {d : PyData}, Dd K H v d → Dd K (hideV D H) v d
  | _, _, .non => .non
  | _, _, .bl b => .bl b
  | _, _, .int i => .int i
  | _, _, .str x => .str x
  | _, _, .lst h a => .lst (hide_at h (fun z => by
      rw [z, hD] at h
      cases h)) (DdAll.off hD a)
  | _, _, .tup h a => .tup (by
      rcases h with (h | ⟨o, h⟩) | h
      · exact .inl (.inl (hide_at h (fun z => by
          rw [z, hD] at h
          cases h)))
      · exact .inl (.inr ⟨o, hide_at h (fun z => by
          rw [z, hD] at h
          cases h)⟩)
      · exact .inr h) (DdAll.off hD a)
  | _, _, .dic h a b => .dic (hide_at h (fun z => by
      rw [z, hD] at h
      cases h)) (DdAll.off hD a) (DdAll.off hD b)
theorem DdAll.off (hD : H D = some (.frz od (.dK kvs))) : ∀ {vs : List V} {ds : List PyData}, DdAll K H vs ds → DdAll K (hideV D H) vs ds
  | _, _, .nil => .nil
  | _, _, .cons h a => .cons (Dd.off hD h) (DdAll.off hD a)
end
end
section
variable {K : PySem.W.Frag} {U : Wo} {W : Wd} {M : Hp} {σ : L2.St} {n k k0 m : Nat} {te ta tb : TE} {t : TA} {tt tu : TT} {H : Hp} {D : Addr} {kvs : List (Key × V)}
theorem e1_lock {d : PyData} (hD : M D = some (.dK kvs)) (h : ∀ od M2, M2 D = some (.frz od (.dK kvs)) → Same (hideV D M) M2 → E1 K U M2 te σ d) : E1 K U M (tLockE te) σ d := fun n H a Q q => by
  have hV := a.up _ _ hD
  refine ⟨D, .dK kvs, U.le _ _ _ hV, trivial, fun od => ?_⟩
  obtain ⟨ok2, f2, o2⟩ := U.own (o := .frz od (.dK kvs)) a.ok hV rfl
  refine h od (U.view (upd H D (.frz od (.dK kvs)))) f2 (fun b u e => o2 b u (hide_of e).1 (a.up _ _ (hide_of e).2)) n _ ⟨ok2, Same.refl _⟩ _ fun v H3 ok3 s3 d3 => ?_
  have f3 := s3 _ _ f2
  refine ⟨U.le _ _ _ f3, ?_⟩
  obtain ⟨ok4, f4, o4⟩ := U.own (o := .dK kvs) ok3 f3 rfl
  refine q v _ ok4 (fun b u e => ?_) ((Dd.off f3 d3).same fun b u e => o4 b u (hide_of e).1 (hide_of e).2)
  by_cases z : b = D
  · rw [z, hV] at e
    rw [z, f4]
    exact e
  · exact o4 b u z (s3 _ _ (o2 b u z e))
theorem i1_keys {i : Nat} {od : Obj} (h : σ[i]? = some (some (.ref D))) (hD : M D = some (.frz od (.dK kvs))) : I1 K U M (iKeys (tVar i)) σ (kvs.map fun p => keyD p.1) := fun n H a R r => by
  refine ⟨_, h, D, od, rfl, .inl ⟨kvs, U.le _ _ _ (a.up _ _ hD), r _ H a.ok (Same.refl _) ?_⟩⟩
  rw [List.length_map]
  refine walk_keys.mono (fun H2 s2 => U.le _ _ _ (s2 _ _ (a.up _ _ hD))) (fun i H2 x H3 hi s2 y => ⟨y.1, ?_⟩)
  obtain ⟨kk, v, e1, rfl⟩ := y.2
  refine ⟨keyD kk, by rw [List.getElem?_map, e1] <;> rfl, ?_⟩
  cases kk with
  | inl i => exact .int i
  | inr x => exact .str x
theorem e1_fget {i j : Nat} {od : Obj} {x : Str} {u v : V} {d : PyData} (h : σ[i]? = some (some (.ref D))) (hj : σ[j]? = some (some v)) (hv : Dd K M v (.str x)) (hD : M D = some (.frz od (.dK kvs))) (g : valV kvs (.inr x : Key) = some u) (hd : Dd K M u d) :
    E1 K U M (tDGet (tVar i) (tVar j)) σ d := fun n H a Q q => by
  cases hv
  exact ⟨_, h, _, hj, D, u, rfl, .inl ⟨kvs, .inr x, .inr ⟨od, U.le _ _ _ (a.up _ _ hD)⟩, rfl, g.symm⟩, q _ H a.ok (Same.refl _) (hd.same a.up)⟩
end
end Mw
/-! ### objects that change, draws of many kinds -/
namespace Mw
open PySem PySem.Spec PyProof PyProof.Rows L2
abbrev rRepr (K : PySem.W.Frag) : List V → Hp → VK → Prop := fun xs H Q => ∃ v d, xs = [v] ∧ Dd K H v d ∧ Fit d ∧ Q (.str d.shown) H
section
variable {K : PySem.W.Frag} {U : Wo} {W : Wd} {M : Hp} {σ : L2.St} {n k k0 k1 k2 m i j : Nat} {te ta tb : TE} {t : TA} {tt tu : TT} {D : Ends} {H : Hp} {R : PyData → Prop} {S : List PyData → Prop}
theorem e1_repr {d : PyData} (h : E1 K U M te σ d) (f : Fit d) : E1 K U M (tCB (rRepr K) (tCons te tNil)) σ (.str d.shown) := fun n H a Q q => h n H a _ fun v H1 ok1 s1 d1 => ⟨v, d, rfl, d1.same (U.le _), f, q _ H1 ok1 s1 (.str _)⟩
theorem e1_min {i j : Int} (ha : E1 K U M ta σ (.int i)) (hb : E1 K U M tb σ (.int j)) : E1 K U M (tCB (fun xs H Q => ∃ i j, xs = [.int i, .int j] ∧ Q (.int (if j < i then j else i)) H) (tCons ta (tCons tb tNil))) σ (.int (if j < i then j else i)) := fun n H a Q q =>
  ha n H a _ fun v H1 ok1 s1 d1 => hb n H1 (a.step ok1 s1) _ fun w H2 ok2 s2 d2 => by
    cases d1
    cases d2
    exact ⟨i, j, rfl, q _ H2 ok2 (s1.trans s2) (.int _)⟩
theorem e1_lenOf {a : Addr} {xs : List V} {i : Nat} (h : σ[i]? = some (some (.ref a))) (hS : SqL K M a xs) : E1 K U M (tCB (fun xs H Q => ∃ x n, xs = [x] ∧ LenV K x H n ∧ Q (.int n) H) (tCons (tVar i) tNil)) σ (.int xs.length) := fun n H at_ Q q =>
  ⟨_, h, _, xs.length, rfl, .inl ⟨xs, (U.le _).seq (at_.up.seq hS), rfl⟩, q _ H at_.ok (Same.refl _) (.int _)⟩
theorem same_shown {a : Str} : (!decide (a = a)) = false := by rw [decide_eq_true rfl] <;> rfl
/-- a for that draws -/
theorem s3_for {wi : TI} {j : Nat} {P : List PyData → Prop} {tb : TS} (a : At U n M H) (hn : n + (k0 + m * k) ≤ most) (h : I3 K U M k0 wi σ P) (z : ∀ ds, P ds → ds.length ≤ m) (Pv : Nat → L2.St → Hp → Prop) (h0 : ∀ H', Same (U.view H) (U.view H') → Pv 0 σ H')
    (hs : ∀ i n' σ' H' v d (N : L2.St → Hp → Prop), i < m → n' + k ≤ most → Pv i σ' H' → At U n' M H' → Same (U.view H) (U.view H') → Dd K (U.view H') v d → (∀ σ2 H2, Pv (i + 1) σ2 H2 → At U (n' + k) M H2 → Same (U.view H') (U.view H2) → N σ2 H2) →
      tb { D with nx := N, ct := N, bk := D.nx } (σ'.set j (some v)) H')
    (hd : ∀ i σ' H', i ≤ m → Pv i σ' H' → At U (n + (k0 + m * k)) M H' → Same (U.view H) (U.view H') → D.nx σ' H') : tFor wi (gName j) tb D σ H :=
  h n H a (by omega) _ fun J ds H1 p ok1 s1 w => by
    have hm := z ds p
    have hmk := Nat.mul_le_mul_right k hm
    refine for_it w (fun i σ' H' => Pv i σ' H' ∧ At U (n + k0 + i * k) M H' ∧ Same (U.view H1) (U.view H')) ⟨h0 _ s1, ⟨by rw [Nat.zero_mul]; exact ok1, a.up.trans s1⟩, Same.refl _⟩ (fun i σ' H' _ z => z.2.2) ?_ ?_
    · rintro i x σ' H2 H3 hi ⟨pv, a2, s2⟩ ⟨rfl, d, hd, dx⟩
      have hik : i * k + k ≤ m * k := by
        have := Nat.mul_le_mul_right k (show i + 1 ≤ m by omega)
        rwa [Nat.add_mul, Nat.one_mul] at this
      exact hs i _ σ' H3 x d _ (by omega) (by omega) pv a2 (s1.trans s2) (dx.same s2) fun σ2 H4 p2 a4 s4 => ⟨p2, ⟨by rw [Nat.add_mul, Nat.one_mul, ← Nat.add_assoc]; exact a4.ok, a4.up⟩, s2.trans s4⟩
    · rintro σ' H2 ⟨pv, a2, s2⟩
      exact hd _ _ _ hm pv ⟨U.mono a2.ok (by omega), a2.up⟩ (s1.trans s2)
/-! draws of many kinds -/
theorem A3.weak {S' : List PyData → Prop} (h : A3 K U M k t σ S) (l : ∀ d, S d → S' d) : A3 K U M k t σ S' := fun n H a hn Q q => h n H a hn Q fun v d H' r ok s dd => q v d H' (l d r) ok s dd
theorem A1.a3 {ds : List PyData} (h : A1 K U M t σ ds) : A3 K U M 0 t σ (fun es => es = ds) := fun n H a _ Q q => h n H a Q fun vs H' ok s dd => q vs ds H' rfl ok s dd
theorem a3_consH (h : E3 K U M k1 te σ R) (hs : A3 K U M k2 t σ S) : A3 K U M (k1 + k2) (tCons te t) σ (fun ds => ∃ d es, ds = d :: es ∧ R d ∧ S es) := fun n H a hn Q q =>
  h n H a (by omega) _ fun v d H1 r1 ok1 s1 d1 => hs (n + k1) H1 ⟨ok1, a.up.trans s1⟩ (by omega) _ fun vs ds H2 r2 ok2 s2 d2 => q _ (d :: ds) H2 ⟨d, ds, rfl, r1, r2⟩ (by rw [← Nat.add_assoc]; exact ok2) (s1.trans s2) (.cons (d1.same s2) d2)
theorem a3_consE {d : PyData} (h : E1 K U M te σ d) (hs : A3 K U M k2 t σ S) : A3 K U M k2 (tCons te t) σ (fun ds => ∃ es, ds = d :: es ∧ S es) := fun n H a hn Q q =>
  h n H a _ fun v H1 ok1 s1 d1 => hs n H1 (a.step ok1 s1) hn _ fun vs ds H2 r2 ok2 s2 d2 => q _ (d :: ds) H2 ⟨ds, rfl, r2⟩ ok2 (s1.trans s2) (.cons (d1.same s2) d2)
theorem e3_lstH (h : A3 K U M k t σ S) (z : ∀ ds, S ds → ds.length ≤ 100000) : E3 K U M k (tLst t) σ (fun d => ∃ ds, d = .list ds ∧ S ds) := fun n H a hn Q q =>
  h n H a hn _ fun vs ds H1 r ok1 s1 d1 => ⟨thousand (by rw [d1.len]; exact z ds r), fun p np => by
    obtain ⟨ok2, s2, f2, _⟩ := U.new (o := .lst vs) ok1 np rfl
    exact q _ _ _ ⟨ds, rfl, r⟩ ok2 (s1.trans s2) (.lst f2 (d1.same s2))⟩
theorem e3_shufH (o : Of U W) (hv : σ[i]? = some (some (.ref W.d))) (h : E3 K U M k ta σ (fun d => ∃ ds, d = .list ds ∧ S ds)) (hm : ∀ ds, S ds → ds.length = m) (hl : m ≤ 100000) (hg : ∀ ds, S ds → ∀ e ∈ ds, e.canLay0 = true ∧ e.depth ≤ 60) :
    E3 K U M (k + m) (tGo (spShuf K) (tCons (tVar i) (tCons ta tNil))) σ (fun d => ∃ ds es, S ds ∧ d = .list es ∧ es.Perm ds) := fun n H a hn Q q =>
  ⟨_, hv, h n H a (by omega) _ fun v d H1 r ok1 s1 d1 => by
    obtain ⟨ds, rfl, sd⟩ := r
    have lm := hm ds sd
    cases d1 with
    | lst hq ha =>
      rename_i p xs
      refine ⟨W, n + k, _, _, rfl, o.st ok1, by rw [ha.len]; omega, by rw [ha.len]; omega, .inl (.inl (.inl (o.le _ _ _ hq))), fun x hx => ?_, fun l ys H2 hp nl hl2 S2 e2 => ?_⟩
      · obtain ⟨f, hf, df⟩ := ha.mem hx
        exact ⟨f, (df.same (o.le _)).dp (hg ds sd f hf).1, (hg ds sd f hf).1, (hg ds sd f hf).2⟩
      · obtain ⟨ok2, s2⟩ := o.go ok1 S2 e2
        obtain ⟨es, p1, p2⟩ := DdAll.perm hp ha
        rw [ha.len, lm, Nat.add_assoc] at ok2
        exact q _ _ _ ⟨ds, es, sd, rfl, p1⟩ ok2 (s1.trans s2) (.lst (o.new ok1 nl hl2) (p2.same s2))⟩
theorem e3_dgetH {x : Str} (h : E3 K U M k te σ (fun d => ∃ e ps, d = .dict ((.str x, e) :: ps) ∧ R e)) : E3 K U M k (tDGet te (tC (.str x))) σ R := fun n H a hn Q q => h n H a hn _ fun v d H1 r ok1 s1 d1 => by
  obtain ⟨e, ps, rfl, re⟩ := r
  cases d1 with
  | dic hq hk hv =>
    rename_i b kvs
    cases kvs with
    | nil => cases hk
    | cons kv kvs =>
      obtain ⟨ky, y⟩ := kv
      cases hk with
      | cons k1 k2 =>
        cases hv with
        | cons v1 v2 =>
          have e : ky = .inr x := by
            cases ky with
            | inl i => cases k1
            | inr z =>
              cases k1
              rfl
          subst e
          refine ⟨_, y, rfl, ?_, q _ _ H1 re ok1 s1 v1⟩
          have g := DGet.k (k := (Sum.inr x : Key)) (U.le _ _ _ hq)
          rw [valV_pos rfl] at g
          exact g
/-! two new objects; objects of one's own that change -/
theorem s1_parN {d e : PyData} (a : At U n M H) (h1 : E1N K U M ta σ d) (h2 : E1N K U M tb σ e) (q : ∀ v w H', At U n (U.view H') H' → Same (U.view H) (U.view H') → Dd K (U.view H') v d → Dd K (U.view H') w e → New U H v → New U H w → D.nx ((σ.set i (some v)).set j (some w)) H') : tPar i j (tCons ta (tCons tb tNil)) D σ H :=
  h1 n H a _ fun v H1 ok1 s1 d1 n1 => h2 n H1 (a.step ok1 s1) _ fun w H2 ok2 s2 d2 n2 => ⟨v, w, rfl, q v w H2 (At.here ok2) (s1.trans s2) (d1.same s2) d2 n1 (n2.back s1)⟩
theorem s1_dclear {p : Addr} {kvs : List (Key × V)} (hi : σ[i]? = some (some (.ref p))) (hp : U.view H p = some (.dK kvs)) (ok : U.ok n H) (hM : M p = none) (up : Same M (U.view H)) (q : ∀ H', At U n M H' → (∀ a u, a ≠ p → U.view H a = some u → U.view H' a = some u) → D.nx σ H') : tDrop (tBM0 K "dict" rDClear (tVar i)) D σ H :=
  ⟨_, hi, .inr (.inr (.inl ⟨rfl, .inl ⟨_, U.le _ _ _ hp⟩⟩)), p, kvs, rfl, rfl, U.le _ _ _ hp, by
    obtain ⟨ok1, f1, o1⟩ := U.own (o := .dK []) ok hp rfl
    exact q _ ⟨ok1, U.keep o1 hM up⟩ o1⟩
theorem s1_push {p : Addr} {xs : List V} {y : V} (hi : σ[i]? = some (some (.ref p))) (hp : U.view H p = some (.lst xs)) (hl : xs.length ≤ 100000) (ok : U.ok n H) (hM : M p = none) (up : Same M (U.view H)) (q : ∀ H', At U n M H' → (∀ a u, a ≠ p → U.view H a = some u → U.view H' a = some u) → D.nx σ H') :
    tDrop (tBM K "list" rAppend (tVar i) (tCons (tC y) tNil)) D σ H :=
  ⟨_, hi, .inl ⟨rfl, xs, .inl (.inl (U.le _ _ _ hp))⟩, p, xs, y, rfl, rfl, U.le _ _ _ hp, Nat.lt_of_le_of_lt hl (by decide), by
    obtain ⟨ok1, f1, o1⟩ := U.own (o := .lst (xs ++ [y])) ok hp rfl
    exact q _ ⟨ok1, U.keep o1 hM up⟩ o1⟩
/-! operators -/
theorem r1_ixL {ds : List PyData} {j : Nat} {d : PyData} (hj : ds[j]? = some d) : R1 K U (rIxL K) (.list ds) (.int j) d := fun n H x y ok h1 h2 Q q => by
  cases h1 with
  | lst hq ha =>
    cases h2
    rename_i p xs
    have lt : j < xs.length := by
      rw [ha.len]
      exact (List.getElem?_eq_some_iff.mp hj).1
    have hv := List.getElem?_eq_getElem lt
    obtain ⟨d', e1, e2⟩ := ha.at hv
    rw [hj] at e1
    cases e1
    exact ⟨_, _, _, _, rfl, rfl, .inl (.inl (U.le _ _ _ hq)), atI_nat hv, q _ H ok (Same.refl _) e2⟩
theorem r1_notB {a b : Bool} : R1 K U rNotB (.bool a) (.bool b) (.bool (!decide (a = b))) := fun n H x y ok h1 h2 Q q => by
  cases h1
  cases h2
  exact ⟨a, b, rfl, rfl, q _ H ok (Same.refl _) (.bl _)⟩
/-- {x: j} == {x: j} -/
theorem r1_eqV1 {x : Str} {j : Int} : R1 K U (rEqV K) (.dict [(.str x, .int j)]) (.dict [(.str x, .int j)]) (.bool true) := fun n H v w ok h1 h2 Q q => by
  have one : ∀ {v : V}, Dd K (U.view H) v (.dict [(.str x, .int j)]) → ∃ a, v = .ref a ∧ U.view H a = some (.dK [(.inr x, .int j)]) := fun {v} h => by
    cases h with
    | dic hq hk hv =>
      rename_i a kvs
      match kvs, hk, hv with
      | [(ky, y)], .cons k1 .nil, .cons v1 .nil =>
        have e : ky = .inr x := by
          cases ky with
          | inl i => cases k1
          | inr z =>
            cases k1
            rfl
        cases v1
        subst e
        exact ⟨a, rfl, hq⟩
  obtain ⟨a, rfl, ha⟩ := one h1
  obtain ⟨b, rfl, hb⟩ := one h2
  refine ⟨1, by decide, .inr ⟨a, b, _, _, rfl, rfl, U.le _ _ _ ha, U.le _ _ _ hb, rfl, fun p hp => ?_⟩, q _ H ok (Same.refl _) (.bl _)⟩
  rw [List.mem_singleton.mp hp]
  exact ⟨.int j, valV_pos rfl, .inl ⟨rfl, rfl⟩⟩
/-- [e for x, y in pairs if ..], none of which is taken -/
theorem e1_lcP0 {wi : TI} {i j : Nat} {vs : List Nat} {ds : List (PyData × PyData)} (h : I1 K U M wi σ (ds.map fun q => .tuple [q.1, q.2])) (hw : ∀ x y, wipe (((wipe σ vs).set i (some x)).set j (some y)) vs = wipe σ vs)
    (ht : ∀ (U' : Wo) M' v u q, Same M M' → q ∈ ds → Dd K M' v q.1 → Dd K M' u q.2 → T1 U' M' tt (((wipe σ vs).set i (some v)).set j (some u)) false) :
    E1 K U M (tLc wi (gTup K 2 (gCons (gName i) (gCons (gName j) gNil))) tt te vs) σ (.list []) := fun n H a Q q => h n H a _ fun J H1 ok1 s1 w => by
  intro D nD
  have nD0 : U.view H1 D = none := by
    cases e : U.view H1 D with
    | none => rfl
    | some o =>
      rw [U.le _ _ _ e] at nD
      cases nD
  have off : Same (U.view H1) (hideV D (U.view H1)) := fun b o e => hide_at e (fun q => by
    rw [q, nD0] at e
    cases e)
  refine lc_it w (fun i H' => U.ok n H' ∧ Same (U.view H1) (hideV D (U.view H')) ∧ U.view H' D = some (.lst [])) ?_ (fun i H' _ z => z.2.1.trans (hide_le _ _)) ?_ ?_
  · obtain ⟨ok2, s2, f2, _⟩ := U.new (o := .lst []) ok1 nD rfl
    exact ⟨ok2, off.trans (hide_same s2), f2⟩
  · rintro i' x H2 H3 hi ⟨ok2, s2, f2⟩ ⟨rfl, d, hd, dx⟩
    rw [List.getElem?_map] at hd
    obtain ⟨p, hp, rfl⟩ := Option.map_eq_some_iff.mp hd
    have hm : p ∈ ds := List.mem_of_getElem? hp
    cases dx with
    | tup hq ha =>
      rename_i b xs
      obtain ⟨v, u, rfl, dv, du⟩ : ∃ v u, xs = [v, u] ∧ Dd K (U.view H1) v p.1 ∧ Dd K (U.view H1) u p.2 := by
        cases ha with
        | cons a b =>
          cases b with
          | cons c e =>
            cases e
            exact ⟨_, _, rfl, a, c⟩
      refine ⟨b, [v, u], rfl, seqT (s2.trans ((hide_le D _).trans (U.le _))) hq, rfl, v, [u], rfl, u, [], rfl, rfl, hw v u, ?_⟩
      refine ht (U.hide D (.lst [])) (U.view H1) v u p (a.up.trans s1) hm dv du n _ ⟨⟨ok2, f2⟩, s2⟩ _ fun H4 ok4 s4 => ?_
      exact iteF ⟨ok4.1, s2.trans s4, ok4.2⟩
  · rintro H2 ⟨ok2, s2, f2⟩
    exact q _ _ ok2 (s1.trans (s2.trans (hide_le _ _))) (.lst f2 .nil)
end
def swap2 {α : Type} : List α → List α
  | [a, b] => [b, a]
  | l => l
end Mw
/-! ### defs that may raise, defs that are told something of the state -/
namespace Mw
open PySem PySem.Spec PyProof.Rows L2
abbrev Rel := List Env → Shared → Hp → Prop
def anyR : Rel := fun _ _ _ => True
structure FnR (P : Program) (w : World) (K : PySem.W.Frag) (mg : Str → Option Value) (base : Heap) (cx : CXT) (R : Rel) (k : Nat) (f : Addr) (fd : FuncData) (ps : List Str) (sp : Sp) : Prop where
  ln : ∀ vs H Q E, sp vs H Q E → vs.length = ps.length
  go : ∀ (A : Around) (out : List Env) (s : Shared) (H : Hp) (args : Args) (us : List Value) (vs : List V) (Q : VK) (E : XK), Rm k A → Env0 P w K mg base A out s H → R out s H →
    BindsTo s fd args (ps.zip us) → Vals vs us → sp vs H Q E → codeAny (model P w) A (.call (.ref f) args) (CR cx out P w H s Q E) s
section
variable {P : Program} {w : World} {K : PySem.W.Frag} {mg : Str → Option Value} {base : Heap} {cx : CXT} {R : Rel}
theorem FnR.mono {j k : Nat} {f : Addr} {fd : FuncData} {ps : List Str} {sp : Sp} (F : FnR P w K mg base cx R j f fd ps sp) (h : j ≤ k) : FnR P w K mg base cx R k f fd ps sp :=
  ⟨F.ln, fun A out s H args us vs Q E hr => F.go A out s H args us vs Q E (hr.mono h)⟩
theorem fnR {x qual : Str} {st : Stmt} {f : Addr} {fd : FuncData} {N ps : List Str} {k : Nat} {sp : Sp} (F : Fun K x qual st f fd) (S : FnScope N ps (defScope st)) (ln : ∀ vs H Q E, sp vs H Q E → vs.length = ps.length)
    (body : ∀ (cdv : Value) (A : Around) (out : List Env) (s : Shared) (H : Hp) (vs : List V) (Q : VK) (E : XK), Rm k (A.deeper (envOfC qual (defScope st) s.heap.objs.size f cdv)) → R out s H → sp vs H Q E →
      ∃ t, PSs (cxOf cx P w K mg base N qual (defScope st) f cdv A out s H E) (defBody st) t ∧ t { nx := fun _ H' => Q .non H', rt := Q } (start N vs) H) : FnR P w K mg base cx R (k + 1) f fd ps sp := by
  obtain ⟨oc, od, kV, doc, pm, an, cdv, ct, osl, rfl, look, code⟩ := F.ex
  refine ⟨ln, ?_⟩
  intro A out s H args us vs Q E room e0 hR binds rel promise
  have stay : ∀ b o, base.get? b = some o → s.heap.get? b = some o := fun b o z => (e0.bs b o z).1
  have inK : K.In s.heap := e0.mod.kin.keeps stay
  have named : ∀ y ∈ ps.zip us, (defScope st).names.lookup y.1 = some .local ∨ ((defScope st).names.lookup y.1 = some .cell ∧ ((cellsFrom (s.heap.objs.size + 1) (defScope st).names []).lookup y.1).isSome = true) := by
    intro y hy
    have hp : y.1 ∈ ps := (List.of_mem_zip (a := y.1) (b := y.2) hy).1
    cases S.par y.1 hp with
    | inl z => exact .inl z
    | inr z => exact .inr ⟨z, PySem.W.cellsFrom_some _ _ _ (.inl z)⟩
  refine codeAny_call_function room.r.depth (inK _ _ look) rfl S.co S.gen rfl (PySem.W.codeRec_of inK code) (binds _ _ _ _ ?_)
  refine wpAny_newFunctionEnv_cells S.kind named ?_
  intro env same s1 began
  cases same
  refine ⟨(e0.mod.nolimit.keeps stay).keeps began.toInCall.keep, codeAny_func ?_⟩
  obtain ⟨t, ht, hq⟩ := body cdv A out s H vs Q E ⟨room.r.deeper _, room.g⟩ hR promise
  have I := inv_start (CX := cx) (E := E) (qual := qual) (N := N) S room.r.hd e0 (ln _ _ _ _ promise) rel began
  have leave : ∀ {σ' : L2.St} {H' : Hp} {v : V} {u : Value} {s' : Shared}, Inv (cxOf cx P w K mg base N qual (defScope st) f cdv A out s H E) [] σ' H' s' → RelV v u → Q v H' → CE out P w H s Q u s' := by
    intro σ' H' v u s' J rv q
    exact ⟨v, H', J.os, J.bare, J.base, J.hok, rv, q⟩
  refine wpAny_mono (ht.run [] s1 (start N vs) H _ I hq) ?_ ?_
  · intro fl s' done
    have z := body_end done
    cases fl with
    | next =>
      obtain ⟨v, σ', H', J, r, q⟩ := z
      exact leave J r q
    | ret u =>
      obtain ⟨v, σ', H', J, r, q⟩ := z
      exact leave J r q
    | brk => exact z.elim
    | cont => exact z.elim
  · intro e s' z
    exact z
end
structure DefR (P : Program) (w : World) (K : PySem.W.Frag) (mg : Str → Option Value) (base : Heap) (cx : CXT) (R : Rel) (x : Str) (k : Nat) (ps : List Str) (sp : Sp) : Prop where
  ex : ∃ (f : Addr) (fd : FuncData), mg x = some (.ref f) ∧ PySem.W.keepIn K (.ref f) = true ∧ Binds K fd ps [] ∧ FnR P w K mg base cx R k f fd ps sp
structure DefRK (P : Program) (w : World) (K : PySem.W.Frag) (mg : Str → Option Value) (base : Heap) (cx : CXT) (R : Rel) (x : Str) (k : Nat) (ps ks : List Str) (gV : List V → List V) (sp : Sp) : Prop where
  ex : ∃ (f : Addr) (fd : FuncData) (g : List Value → List Value → List Value), mg x = some (.ref f) ∧ PySem.W.keepIn K (.ref f) = true ∧ KBn K fd ps 0 ks g (fun _ zs => gV zs) ∧ FnR P w K mg base cx R k f fd ps sp
section
variable {X : Cx} {cx : CXT} {R : Rel} {k : Nat} {ps : List Str} {sp : Sp} {E : XK} {x : Str} {p pos : Pos} {e : Expr} {es : List Expr} {t : TA}
theorem callR {pins : List (Addr × Obj)} {σ : L2.St} {H : Hp} {s : Shared} {Q : VK} {f : Addr} {fd : FuncData} {args : Args} {us : List Value} {vs : List V} (F : FnR X.prog X.w X.K X.mg X.base cx R k f fd ps sp) (hr : Rm k X.A) (hR : R X.stack s H) (hx : Passes cx X E)
    (hb : BindsTo s fd args (ps.zip us)) (I : Inv X pins σ H s) (r : Vals vs us) (h : sp vs H Q E) :
    codeAny (model X.prog X.w) X.A (.call (.ref f) args) (fun r s' => match r with | .ok (.ret u) => EP X pins σ Q u s' | .ok _ => False | .error e => X.xe e s') s := by
  refine codeAny_mono (F.go X.A X.stack s H args us vs Q E hr I.env0 hR hb r h) ?_
  intro res s' done
  cases res with
  | error e => exact hx pins σ H s e s' I done
  | ok fl =>
    cases fl with
    | ret u => exact I.after done
    | next => exact done.elim
    | brk => exact done.elim
    | cont => exact done.elim
def tGoE (sp : Sp) (E : XK) (t : TA) : TE := fun σ H Q => t σ H fun vs H1 => sp vs H1 Q E
theorem pe_goE (D : DefR X.prog X.w X.K X.mg X.base cx R x k ps sp) {j : Nat} (hr : Rm j X.A) (hR : ∀ pins σ H s, Inv X pins σ H s → R X.stack s H) (hx : Passes cx X E) (ha : PA X (e :: es) t) (hj : k ≤ j := by decide) (hg : Gl X x := by rfl) (hdb : (x == ("__debug__" : Str)) = false := by decide)
    (he : starEach (e :: es) X.env = (false, eval e X.env) :: starEach es X.env := by rfl) (hpl : (backTo pos (starEach es X.env)).any (·.1) = false := by rfl) :
    PE X (.Call (.Name x p) (e :: es) [] pos) (tGoE sp E t) := by
  obtain ⟨f, fd, g, kp, b, F⟩ := D.ex
  constructor
  intro pins s σ H Q I h
  refine wpAny_Call_Name_kw (ld_glob I hg g ?_ hdb)
  refine PySem.W.callWith_K (h₀ := X.base) I.ok.mod.kin kp (thn (ha.run pos pins s σ H _ I h) ?_) he hpl
  rintro us s1 ⟨vs, H1, I1, r, q⟩
  refine ⟨I1.kIn, wpAny_call (codeAny_mono (callR F (hr.mono hj) (hR _ _ _ _ I1) hx (us := us) ?_ I1 r q) ?_)⟩
  · have z := b s1 us I1.kIn (by rw [List.append_nil, ← r.length]; exact F.ln _ _ _ _ q)
    rwa [List.append_nil] at z
  · intro res s' z
    cases res with
    | error e => exact z
    | ok fl =>
      cases fl with
      | ret u => exact z
      | next => exact z.elim
      | brk => exact z.elim
      | cont => exact z.elim
def tGoEK (n : Nat) (sp : Sp) (E : XK) (gV : List V → List V) (tk : TA) : TE := fun σ H Q => tk σ H fun zs H1 => zs.length = n ∧ sp (gV zs) H1 Q E
theorem pe_goEK {kws : List Keyword} {ks : List Str} {gV : List V → List V} {tk : TA} (D : DefRK X.prog X.w X.K X.mg X.base cx R x k ps ks gV sp) {j : Nat} (hr : Rm j X.A) (hR : ∀ pins σ H s, Inv X pins σ H s → R X.stack s H) (hx : Passes cx X E) (hkw : PK X kws tk) (hj : k ≤ j := by decide) (hg : Gl X x := by rfl)
    (hall : (backToKw pos (keywordEach kws X.env)).all (·.1.isSome) = true := by rfl) (hks : (backToKw pos (keywordEach kws X.env)).filterMap (·.1) = ks := by rfl) (hdb : (x == ("__debug__" : Str)) = false := by decide)
    (plain : ((backTo pos (starEach [] X.env)).any (·.1) || (backToKw pos (keywordEach kws X.env)).any (·.1.isNone)) = false := by rfl) :
    PE X (.Call (.Name x p) [] kws pos) (tGoEK ks.length sp E gV tk) := by
  obtain ⟨f, fd, g, hm, kp, b, F⟩ := D.ex
  constructor
  intro pins s σ H Q I h
  refine wpAny_Call_Name_kw (ld_glob I hg hm ?_ hdb)
  refine PySem.W.callWith_KW0 (h₀ := X.base) I.ok.mod.kin kp hall ?_ plain
  refine thn (hkw.run pos pins s σ H _ I h) ?_
  rintro ws s2 ⟨zs, H2, I2, rz, l2, q2⟩
  refine ⟨I2.kIn, ?_⟩
  rw [hks]
  have rel : Vals (gV zs) (g [] ws) := b.rel (vs := []) .nil rz
  refine wpAny_call (codeAny_mono (callR F (hr.mono hj) (hR _ _ _ _ I2) hx (us := g [] ws) (b.to s2 [] ws I2.kIn rfl (rz.length.symm.trans l2)) I2 rel q2) ?_)
  intro res s' z
  cases res with
  | error e => exact z
  | ok fl =>
    cases fl with
    | ret u => exact z
    | next => exact z.elim
    | brk => exact z.elim
    | cont => exact z.elim
end
/-- in a def that may raise, what a callee lets out goes on -/
theorem pass_on {X : Cx} {E : XK} (tk : Takes X fun cls d _ H => E cls d H) : Passes (L2.CX X.prog X.w) X E := passes_call tk fun _ _ _ _ h => h
/-! an own class of errors -/
def bmV : List Value := [.type "ValueError", .type "Exception", .type "BaseException", .type "object"]
structure ErrC (K : PySem.W.Frag) (mg : Str → Option Value) (x : Str) (C : Addr) : Prop where
  ex : PySem.W.excIn K C bmV "ValueError.__new__" = true
  g : mg x = some (.ref C)
  k : PySem.W.keepIn K (.ref C) = true
  b : PySem.W.subIn K (.ref C) (.type "BaseException") = some true
  t : PySem.W.typeIn K (.ref C) = some (.type "type")
theorem ps_raiseC {X : Cx} {E : XK} {x m : Str} {C : Addr} {j : Nat} {p p2 pos rpos : Pos} (c : ErrC X.K X.mg x C) (hc : X.calm = true) (tk : Takes X fun cls d _ H => E cls d H) (hg : Gl X x) (hdb : (x == ("__debug__" : Str)) = false := by decide) :
    PS X (.Raise (some (.Call (.Name x p) [.Constant (.str m) j p2] [] pos)) none rpos) (fun _ _ H => E (.ref C) none H) :=
  ps_raise hc tk (pmk_own PySem.F.excBase_ValueError c.ex c.g c.k (raises_own c.b c.t) hg hdb)
end Mw
/-! ### errors that are caught and kept -/
namespace Mw
open PySem PySem.Spec PyProof.Rows L2
/-- an error of the class cls that was raised once, at a -/
def ErO (cls : Value) (a : Addr) : HO := .ext fun h => ∃ (oe : Obj) (vs : Array Value), h.get? a = some oe ∧ Zc cls none oe ∧ oe.data = .fields vs
theorem erO_ok {P : Program} {w : World} {H : Hp} {h : Heap} {a : Addr} {cls : Value} {oe : Obj} {vs : Array Value} (e : h.get? a = some oe) (z : Zc cls none oe) (d : oe.data = .fields vs) : ObjOk P w H h a (ErO cls a) := by
  refine ⟨⟨oe, vs, e, z, d⟩, ⟨oe, e⟩, ?_⟩
  rintro h1 h2 ⟨o, v, k1, k2, k3⟩ st
  exact ⟨o, v, st o k1, k2, k3⟩
section
variable {X : Cx} {pins : List (Addr × Obj)} {σ : L2.St} {H : Hp} {s : Shared}
/-- a thing that came up since the def began is told of from now on -/
theorem inv_tell {a : Addr} {oe : Obj} {vs : Array Value} {o : HO} (I : Inv X pins σ H s) (ha : s.heap.get? a = some oe) (hd : oe.data = .fields vs) (na : H a = none) (n0 : X.s_0.heap.get? a = none) (nL : a ≠ X.env.locals) (np : ∀ p ∈ X.pn ++ pins, p.1 ≠ a)
    (new : ObjOk X.prog X.w (upd H a o) s.heap a o) : Inv X pins σ (upd H a o) s := by
  have off : ∀ b u, H b = some u → b ≠ a := fun b u e => ne_of_none e na
  have old : ∀ b u, X.s_0.heap.get? b = some u → b ≠ a := by
    intro b u e z
    rw [z, n0] at e
    cases e
  have cellOff : ∀ x c, X.env.cells.lookup x = some c → c ≠ a := by
    intro x c e z
    obtain ⟨v, ob, h1, h2⟩ := I.cell x c e
    rw [z, ha] at h1
    cases h1
    rw [hd] at h2
    cases h2
  refine ⟨I.ok, I.os, I.bare, ⟨I.base.keep, I.base.slot, ?_, I.base.there, ?_, ?_, ?_⟩, I.loc, I.cell, ?_, ?_, ?_, ?_, I.len⟩
  · intro b u e n hx
    rw [upd_ne (old b u e)]
    exact I.base.free b u e n hx
  · intro b xs e
    have z := I.base.tups b xs e
    rw [upd_ne (off b _ z)]
    exact z
  · intro b u xs e
    have z := I.base.frzs b u xs e
    rw [upd_ne (off b _ z)]
    exact z
  · intro b ps e
    obtain ⟨m, z⟩ := I.base.tbls b ps e
    exact ⟨m, by rw [upd_ne (off b _ z)]; exact z⟩
  · rw [upd_ne (Ne.symm nL)]
    exact I.free
  · intro x c e
    rw [upd_ne (cellOff x c e)]
    exact I.freeC x c e
  · intro p hp
    obtain ⟨h1, h2, h3, h4, h5⟩ := I.pin p hp
    exact ⟨h1, by rw [upd_ne (np p hp)]; exact h2, h3, h4, h5⟩
  · intro b u e
    by_cases hb : b = a
    · subst hb
      rw [upd_same] at e
      cases e
      exact new
    · rw [upd_ne hb] at e
      exact (I.hok b u e).stay (fun _ _ _ q => q) (fun c q => by rw [upd_ne (off c _ q)]; exact q) fun c xs q => by rw [upd_ne (off c _ q)]; exact q
end
/-- what the clause 'except x as n' wishes, the error being kept -/
def wKeep (K : PySem.W.Frag) (c : Value) (i : Nat) (ts : Addr → Value → TS) (D : Ends) : WX := fun cls d σ H =>
  d = none ∧ PySem.W.exmOne K cls c = some true ∧ ∀ a, H a = none → ts a cls { D with nx := fun σ' H' => D.nx (σ'.set i none) (upd H' a (ErO cls a)), rt := fun _ _ => False, bk := fun _ _ => False, ct := fun _ _ => False } (σ.set i (some (.ref a))) H
section
variable {X : Cx} {x n : Str} {c : Value} {i : Nat} {body suite : List Stmt} {b₀ : Stmt} {np pos pos' : Pos} {tb : WX → TS} {ts : Addr → Value → TS}
theorem ps_try_keep (hst : X.stack = X.env :: X.outer) (hfr : X.env.frame = some X.env.locals) (hex : X.ex = []) (hN : X.N.Nodup) (hi : X.N[i]? = some n) (hln : X.env.kindOf n = some .local) (hc : Names X x c)
    (hb : ∀ (W : WX) (pn : List (Addr × Obj)) (xe : Value → Shared → Prop), Takes (X.tr pn xe) W → PSs (X.tr pn xe) body (tb W))
    (hsu : ∀ (a : Addr) (oe : Obj) (cls : Value) (pn : List (Addr × Obj)), PSs (X.suite a ((a, oe) :: pn)) (b₀ :: suite) (ts a cls)) :
    PS X (.Try body [.ExceptHandler (some (.Name x np)) (some n) (b₀ :: suite) pos'] [] [] pos) (fun D σ H => tb (wKeep X.K c i ts D) D σ H) := by
  constructor
  intro pins s0 σ0 H0 D I h
  have ok := I.ok
  have frames : X.A.frames = some (X.env :: X.outer) := ok.frames.trans (congrArg some hst)
  let hands := [ExceptHandler.ExceptHandler (some (.Name x np)) (some n) (b₀ :: suite) pos']
  let after : Value → Shared → Prop := fun e s₁ => wpAny (model X.prog X.w) X.A (noteFrame e X.env) (fun _ s₂ =>
    wpAny (model X.prog X.w) X.A (setFlight e none) (fun _ s₃ => wpAny (model X.prog X.w) X.A (handleBy e X.env hands) (SP X pins D) X.xe s₃) X.xe s₂) X.xe s₁
  have taken : Takes (X.tr (X.pn ++ pins) after) (wKeep X.K c i ts D) := by
    rintro u s1 ⟨a, B, sI, pinsI, σI, HI, cls, d, rfl, JI, nb, up, sky, na, os, ag, rfl, hsub, wish⟩
    have J : Inv X pins σI HI sI := JI.ofTry ok
    have sky2 : Sky B (X.env :: X.outer) a (Zc cls none) X.env.locals s1.heap := hst ▸ sky
    have skyB : B.get? a = none := by
      rcases sky with ⟨_, z, _⟩ | fl | hd
      · exact z
      · exact fl.2.1
      · exact hd.2.1
    have notF : a ∉ frs X.stack := by
      have ff : ∃ (h : Heap) (oe : Obj) (vs : Array Value), h.FunFrames B X.stack ∧ h.get? a = some oe ∧ oe.data = .fields vs := by
        rcases sky with ⟨_, _, z, oe, vs, e1, _, e2, _⟩ | fl | hd
        · exact ⟨_, oe, vs, z, e1, e2⟩
        · obtain ⟨_, _, z, oe, vs, _, _, _, e1, _, e2, _⟩ := fl
          exact ⟨_, oe, vs, z, e1, e2⟩
        · obtain ⟨_, _, z, oe, vs, _, _, _, e1, _, e2, _⟩ := hd
          exact ⟨_, oe, vs, z, e1, e2⟩
      obtain ⟨h, oe, vs, z, e1, e2⟩ := ff
      intro hm
      obtain ⟨_, o2, e3, nofl⟩ := z.mem hm
      rw [e1] at e3
      cases e3
      exact nofl _ e2
    have newA : sI.heap.get? a = none := by
      cases e : sI.heap.get? a with
      | none => rfl
      | some o =>
        have z := nb a o e notF
        rw [skyB] at z
        cases z
    have newS : X.s_0.heap.get? a = none := by
      cases e : X.s_0.heap.get? a with
      | none => rfl
      | some o =>
        obtain ⟨o2, z⟩ := J.base.there a o e (fun z => nomatch (hex ▸ z : a ∈ ([] : List Addr)))
        rw [newA] at z
        cases z
    have pinA : ∀ p ∈ X.pn ++ pins, p.1 ≠ a := by
      intro p hp z
      have y := (J.pin p hp).1
      rw [z, newA] at y
      cases y
    have notL : a ≠ X.env.locals := fun z => notF (by
      rw [hst]
      exact List.mem_filterMap.mpr ⟨X.env, List.mem_cons_self, z ▸ hfr⟩)
    have notFs : a ∉ X.fs := fun hm => by
      obtain ⟨e, he, q⟩ := List.mem_filterMap.mp hm
      exact notF (hst ▸ List.mem_filterMap.mpr ⟨e, List.mem_cons_of_mem _ he, q⟩)
    refine Sky.land Zc.steady frames hfr sky2 (fun g fg ug => ?_)
    have Jg : Inv X pins σI HI { s1 with heap := g } := J.landed nb fg.1 (up.trans ug) os ag
    obtain ⟨og, vg, eg, zg, dg⟩ := fg.there
    have Sg := Jg.suite eg dg na notL notFs
    refine wpAny_handleBy_cons (codeAny_handlers_test ?_) (fun q => nomatch q)
    have tyA : PySem.W.Looks (model X.prog X.w) g (typeOf (.ref a)) cls := fun A2 Q2 E2 s2 k2 q2 => wpAny_typeOf_ref (k2 _ _ eg) (by
      rw [zg.1]
      exact q2)
    have meets := PySem.W.exm_one (M := model X.prog X.w) Jg.kIn tyA hsub
    have named : ∀ {Q2 E2 : Value → Shared → Prop}, Q2 c { s1 with heap := g } → wpAny (model X.prog X.w) (X.A.mark (some (.ref a))) (eval (.Name x np) X.env) Q2 E2 { s1 with heap := g } := by
      intro Q2 E2 q2
      obtain ⟨k1, k2, k3⟩ := hc
      rcases k3 with k3 | ⟨k3, k4, k5⟩
      · exact ld_glob (X := X.suite a ((a, og) :: (X.pn ++ pins))) Sg k1 k3 q2 k2
      · exact ld_blt (X := X.suite a ((a, og) :: (X.pn ++ pins))) Sg k1 k3 k4 q2 k5 k2
    refine named (meets.here (codeAny_handlers_suite_as ?_))
    refine HandSPX.lands_againZ fg (fun g2 fg2 ug2 => ?_)
    have Jh : Inv X pins σI HI { s1 with heap := g2 } := J.landed nb fg2.1 ((up.trans ug).trans ug2) os ag
    obtain ⟨oh, vh, eh, zh, dh⟩ := fg2.there
    have Sh := Jh.suite eh dh na notL notFs
    refine store_ok (X := X.suite a ((a, oh) :: (X.pn ++ pins))) (v := .ref a) Sh hN hi (.inl hln) rfl (fun s5 S5 => ?_) (.inr hln)
    refine wpAny_mono ((hsu a oh cls (X.pn ++ pins)).run [] s5 _ HI _ S5 (wish a na)) (fun fl s6 done => ?_) (fun _ _ z => z.elim)
    cases fl with
    | next =>
      obtain ⟨σ6, H6, S6, q6⟩ := done
      obtain ⟨p1, p2, _⟩ := S6.pin (a, oh) (List.mem_append_left _ List.mem_cons_self)
      have J6 : Inv X pins σ6 H6 s6 := S6.unsuite ok
      have at6 : ∀ s7, Inv X pins (σ6.set i none) H6 s7 → s7.heap.get? a = some oh → SP X pins D .next s7 := fun s7 J7 e7 =>
        ⟨_, _, inv_tell J7 e7 dh p2 newS notL pinA (erO_ok e7 zh dh), q6⟩
      have K6 : Inv X ((a, oh) :: pins) σ6 H6 s6 := ⟨ok, J6.os, J6.bare, J6.base, J6.loc, J6.cell, J6.free, J6.freeC, fun p hp => S6.pin p (by
        rw [List.append_nil]
        rcases List.mem_append.mp hp with z | z
        · exact List.mem_cons_of_mem _ (List.mem_append_left _ z)
        · rcases List.mem_cons.mp z with z | z
          · rw [z]
            exact List.mem_cons_self
          · exact List.mem_cons_of_mem _ (List.mem_append_right _ z)), J6.hok, J6.len⟩
      refine gone_ok K6 hN hi hln (fun s7 K7 => at6 s7 ⟨K7.ok, K7.os, K7.bare, K7.base, K7.loc, K7.cell, K7.free, K7.freeC, fun p hp => K7.pin p ?_, K7.hok, K7.len⟩ (K7.pin (a, oh) (List.mem_append_right _ List.mem_cons_self)).1)
      rcases List.mem_append.mp hp with z | z
      · exact List.mem_append_left _ z
      · exact List.mem_append_right _ (List.mem_cons_of_mem _ z)
    | brk =>
      obtain ⟨_, _, _, z⟩ := done
      exact z.elim
    | cont =>
      obtain ⟨_, _, _, z⟩ := done
      exact z.elim
    | ret u =>
      obtain ⟨_, _, _, _, _, z⟩ := done
      exact z.elim
  refine wpAny_Try_except (wpAny_mono ((hb (wKeep X.K c i ts D) (X.pn ++ pins) after taken).run [] s0 σ0 H0 D (I.toTry _) h) (fun fl s1 done => ?_) (fun _ _ z => z))
  cases fl with
  | next =>
    obtain ⟨σ1, H1, J1, q1⟩ := done
    exact wpAny_execs_nil ⟨σ1, H1, J1.ofTry ok, q1⟩
  | brk =>
    obtain ⟨σ1, H1, J1, q1⟩ := done
    exact ⟨σ1, H1, J1.ofTry ok, q1⟩
  | cont =>
    obtain ⟨σ1, H1, J1, q1⟩ := done
    exact ⟨σ1, H1, J1.ofTry ok, q1⟩
  | ret u =>
    obtain ⟨v1, σ1, H1, J1, r1, q1⟩ := done
    exact ⟨v1, σ1, H1, J1.ofTry ok, r1, q1⟩
end
/-! isinstance of an error that was kept -/
def rIsKept (K : PySem.W.Frag) : List V → Hp → VK → Prop := fun xs H Q => ∃ (a D : Addr) (c : V) (cv : Value) (b : Bool), xs = [.ref a, c] ∧ H a = some (ErO (.ref D) a) ∧ ExcC K D ∧ (∀ u, RelV c u → u = cv) ∧ PySem.W.kitOne K (.ref D) cv = some b ∧ Q (.bl b) H
theorem call_isKept {X : Cx} : CallR X (.builtin "isinstance") (rIsKept X.K) := by
  intro pins s σ H xs us Q I r h
  obtain ⟨a, D, c, cv, b, rfl, ha, C, hcv, e, q⟩ := h
  cases r with
  | cons r1 rr =>
    cases rr with
    | cons r2 rr =>
      cases rr
      cases r1
      have ec := hcv _ r2
      subst ec
      obtain ⟨⟨oe, vs, h1, ⟨h2, h3⟩, h4⟩, _, _⟩ := I.hok a _ ha
      have at_ : PySem.W.InstAt s.heap a oe D none := by
        obtain ⟨oc, od, oda, osl⟩ := oe
        dsimp only at h2 h3 h4
        subst h2 h3 h4
        exact ⟨h1, rfl, rfl, trivial⟩
      refine PySem.W.kia_one (PySem.W.handS_kitx_exc C.hg C.hk C.hs C.hd C.ha C.hn C.ht C.hm) I.kIn at_ e (fun z => nomatch z) (fun tk => ?_)
      exact ⟨.bl b, H, I.kept (t' := tk) fun _ _ z => z, rfl, q⟩
/-! how often a flat thing stands in a list -/
def rCntF (K : PySem.W.Frag) : V → List V → Hp → VK → Prop := fun x xs H Q => ∃ (p : Addr) (ys : List V) (y : V), x = .ref p ∧ xs = [y] ∧ SqL K H p ys ∧ flatV y = true ∧ ys.all flatV = true ∧ Q (.int (ys.countP (fun z => eqV z y) : Nat)) H
theorem count_flat {y : V} : ∀ {ys : List V} {us : List Value}, Vals ys us → ys.all flatV = true → us.countP (eqU y) = ys.countP (fun z => eqV z y)
  | [], _, .nil, _ => rfl
  | z :: ys, u :: us, .cons r rs, f => by
    rw [List.all_cons, Bool.and_eq_true] at f
    have ih := count_flat (y := y) rs f.2
    rw [List.countP_cons, List.countP_cons, ih, eqU_of r f.1]
theorem mt_countF {X : Cx} : MtR X "list.count" (rCntF X.K) := by
  intro pins s σ H x xs v us Q I rx rxs h
  obtain ⟨p, ys, y, rfl, rfl, hs, fy, fys, q⟩ := h
  cases rx
  cases rxs with
  | cons ry rt =>
    cases rt
    rename_i uy
    obtain ⟨its, rv, ⟨⟨cls, dd, data, sl⟩, n, ho, hc, hdn, hd⟩, hlen⟩ := I.list hs
    dsimp only at hc hd
    subst hc hd
    have same := count_flat (y := y) rv fys
    refine call_meets PySem.F.slot_list_count ⟨_, ho, rfl⟩ PySem.F.entry_list_count (PySem.F.args_list_count_2 _ _)
      (SeqAt.list_countAt p its.toArray n dd sl uy (eqU y)) ⟨ho, fun u hu => mem_eqAt ry fy rv fys u (by simpa using hu), ?_⟩
    refine ⟨.int (ys.countP (fun z => eqV z y) : Nat), H, I.tok _, ⟨s.toks, ?_⟩, q⟩
    show Value.int ((its.countP (eqU y) : Nat) : Int) s.toks = _
    rw [same]
end Mw
/-! ### an own error's __init__ that says super().__init__(..) first -/
namespace Mw
open PySem PySem.Spec PyProof.Rows L2
variable {K : PySem.W.Frag}
/-- the wrapper of ValueError.__init__ is called: the error's args are new -/
theorem call_mw {prog : Program} {w : World} {A : Around} {E : Value → Shared → Prop} {s : Shared} {C a u t : Addr} {us : List Value} {Q : Value → Shared → Prop} (T : OexC K C) (inK : K.In s.heap) (isE : s.heap.get? a = some (HandSPX.excO C t)) (isW : s.heap.get? u = some (PySem.W.kxs_mw "ValueError.__init__" a)) (few : us.length ≤ sizeLine)
    (next : ∀ g t', (∀ b z, b ≠ a → s.heap.get? b = some z → g.get? b = some z) → g.get? a = some (HandSPX.excO C t') → Q .none { s with heap := g }) : wpAny (model prog w) A (call (.ref u) us) Q E s := by
  obtain ⟨h, gs, dr, tk, os⟩ := s
  obtain ⟨_, _, _, _, bm, _, _, _, _, _, _, _, _, _, _, hC, _⟩ := T.cls
  have wrapper : (Value.type "method-wrapper" == Value.type "method" || Value.type "method-wrapper" == Value.type "builtin_function_or_method" || Value.type "method-wrapper" == Value.type "method-wrapper") = true := by decide
  refine wpAny_call (codeAny_of_tree (show wpAny _ _ (callAny (.ref u) ⟨us, []⟩) _ _ _ from ?_))
  simp only [callAny]
  refine wpAny_bind (wpAny_load isW (show wpAny _ _ _ _ _ _ from ?_))
  simp only [PySem.W.kxs_mw, wrapper, if_true]
  refine W.KFB.if_so (by decide) (wpAny_bind (ESX.check_bound F.excBase_ValueError (inK _ _ hC) isE rfl (wpAny_bind (wpAny_pure (wpAny_pure ?_)))))
  refine And.intro (Code.quiet_builtin _ (by decide +kernel)) (codeAny_builtin F.excBase_ValueError.initEntry ?_)
  rw [Around.under_plainId F.excBase_ValueError.init.plain _]
  wp_walk
  have up : ∀ b z, h.get? b = some z → (h.push _).get? b = some z := fun b z e => Heap.get?_push_of_some { cls := .type "tuple", data := .seq us.toArray } e
  refine next _ h.objs.size ?_ ?_
  · intro b z nb e
    exact (Heap.get?_update_other _ _ (Ne.symm nb)).trans (up b z e)
  · exact (Heap.get?_update_self _ (up _ _ isE) rfl).trans rfl
/-- the context of such an __init__ -/
def iniCx (cx : CXT) (P : Program) (w : World) (K : PySem.W.Frag) (mg : Str → Option Value) (base : Heap) (N : List Str) (qual : Str) (scope : Scope) (f : Addr) (cd : Value) (cc : Addr) (A : Around) (outer : List Env) (s : Shared) (H : Hp) (E : XK) : Cx where
  prog := P
  w := w
  K := K
  mg := mg
  base := base
  A := A.deeper (PySem.W.ksEnv qual scope s.heap.objs.size f cd cc)
  N := N
  s_0 := s
  H_0 := H
  env := PySem.W.ksEnv qual scope s.heap.objs.size f cd cc
  outer := outer
  stack := PySem.W.ksEnv qual scope s.heap.objs.size f cd cc :: outer
  ex := []
  calm := true
  fn := fun _ => false
  pn := []
  xe := fun e s' => wpAny (model P w) (A.deeper (PySem.W.ksEnv qual scope s.heap.objs.size f cd cc)) (leaving (PySem.W.ksEnv qual scope s.heap.objs.size f cd cc) e) (fun _ s'' => cx outer H s E e s'') (fun e' s'' => cx outer H s E e' s'') s'
structure IniScope (N P : List Str) (sc : Scope) : Prop where
  kind : sc.kind = .function
  co : sc.isCoroutine = false
  gen : sc.isGenerator = false
  nd : N.Nodup
  pre : N.take P.length = P
  par : ∀ x ∈ P, sc.names.lookup x = some .local
  nocell : ∀ y ∈ sc.names, y.2 ≠ .cell
  free : ∀ y ∈ sc.names, y.2 = .free → y.1 = "__class__"
  sup : sc.names.lookup ("super" : Str) = some .globalImplicit
  cls : sc.names.lookup ("__class__" : Str) = some .free
theorem zip_at : ∀ {ps : List Str} {us : List Value} {i : Nat} {x : Str} {u : Value}, ps[i]? = some x → us[i]? = some u → (x, u) ∈ ps.zip us
  | p :: ps, z :: us, 0, x, u, h1, h2 => by
    cases h1
    cases h2
    exact List.mem_cons_self
  | p :: ps, z :: us, i + 1, x, u, h1, h2 => List.mem_cons_of_mem _ (zip_at (i := i) h1 h2)
  | [], _, _, _, _, h1, _ => by simp at h1
  | _ :: _, [], _, _, _, _, h2 => by simp at h2
theorem zip_of {ps : List Str} {us : List Value} {x : Str} {u : Value} (nd : ps.Nodup) (i : Nat) (h1 : ps[i]? = some x) (h2 : us[i]? = some u) {v : Value} (h : (x, v) ∈ ps.zip us) : v = u := by
  obtain ⟨j, hj⟩ := List.mem_iff_getElem?.mp h
  rw [List.getElem?_zip_eq_some] at hj
  obtain ⟨k1, k2⟩ := hj
  have e : i = j := by
    have l1 := (List.getElem?_eq_some_iff.mp h1)
    have l2 := (List.getElem?_eq_some_iff.mp k1)
    obtain ⟨a1, b1⟩ := l1
    obtain ⟨a2, b2⟩ := l2
    rcases Nat.lt_trichotomy i j with lt | e | lt
    · exact absurd (b1.trans b2.symm) (List.pairwise_iff_getElem.mp nd i j a1 a2 lt)
    · exact e
    · exact absurd (b2.trans b1.symm) (List.pairwise_iff_getElem.mp nd j i a2 a1 lt)
  subst e
  rw [h2] at k2
  exact (Option.some.inj k2).symm
theorem start_at {N : List Str} {vs : List V} {i : Nat} {v : V} (h : (L2.start N vs)[i]? = some (some v)) : i < vs.length ∧ vs[i]? = some v := by
  have len : (vs.map some).length = vs.length := List.length_map ..
  rcases Nat.lt_or_ge i vs.length with lt | ge
  · have z : (vs.map some ++ List.replicate (N.length - vs.length) none)[i]? = some (some v) := h
    rw [List.getElem?_append_left (len ▸ lt), List.getElem?_map, List.getElem?_eq_getElem lt] at z
    exact ⟨lt, by rw [List.getElem?_eq_getElem lt]; exact Option.some.inj z⟩
  · have z : (vs.map some ++ List.replicate (N.length - vs.length) none)[i]? = some (some v) := h
    rw [List.getElem?_append_right (len ▸ ge)] at z
    have none' := List.mem_replicate.mp (List.mem_of_getElem? z)
    exact nomatch none'.2
theorem ini_start {cx : CXT} {P : Program} {w : World} {K : PySem.W.Frag} {mg : Str → Option Value} {base : Heap} {N ps : List Str} {qual : Str} {scope : Scope} {f cc : Addr} {cd : Value} {A : Around} {outer : List Env} {s : Shared} {H : Hp} {E : XK} {us : List Value} {vs : List V} {h₁ : Heap} {tk : Nat} {oc : Obj} {vc : Option Value}
    (S : IniScope N ps scope) (hd : A.handled = none) (e0 : Env0 P w K mg base A outer s H) (hl : vs.length = ps.length) (r : Vals vs us) (hcc : base.get? cc = some oc) (hoc : oc.data = .cell vc)
    (hns : h₁.Ns s.heap.objs.size fun y => (ps.zip us).reverse.lookup y) (kp : ∀ b o, s.heap.get? b = some o → h₁.get? b = some o) :
    Inv (iniCx cx P w K mg base N qual scope f cd cc A outer s H E) [] (L2.start N vs) H { s with heap := h₁, toks := tk } := by
  have hpl : ps.length ≤ N.length := by have := congrArg List.length S.pre; rw [List.length_take] at this; omega
  have noA : ∀ b : Addr, b ∉ (iniCx cx P w K mg base N qual scope f cd cc A outer s H E).ex := fun b z => absurd (show b ∈ ([] : List Addr) from z) (by simp)
  have one : ∀ {y : Str} {c : Addr}, ([("__class__", cc)] : List (Str × Addr)).lookup y = some c → y = "__class__" ∧ c = cc := fun {y c} e => by
    have m := PySem.mem_of_lookup e
    rw [List.mem_singleton] at m
    cases m
    exact ⟨rfl, rfl⟩
  have ndp : ps.Nodup := by
    rw [← S.pre]
    exact S.nd.sublist (List.take_sublist _ _)
  refine ⟨⟨e0.mod, S.kind, rfl, rfl, Nat.le_refl _, fun y z c h1 h2 => ?_, fun y hy => ?_, fun y c z _ => ?_, fun _ => hd, Around.frames_deeper e0.frames, .inr ⟨rfl, rfl⟩, fun b z => absurd z (noA b), e0.bs, e0.bsz, fun b _ _ => noA b, fun b z => absurd z (noA b), e0.funs, e0.frf⟩,
    rfl, e0.bare, Un.kept kp, ⟨_, hns, fun i y v h1 h2 h3 => ?_⟩, fun y c h => ?_, e0.hok.fresh (Nat.le_refl _), fun y c h => ?_, fun p hp => absurd (show p ∈ ([] : List (Addr × Obj)) from hp) (by simp), e0.hok.kept kp, ?_⟩
  · rw [(one h1).1, (one h2).1]
  · have hy : scope.names.lookup y = some .cell ∨ scope.names.lookup y = some .free := hy
    rcases hy with hy | hy
    · exact absurd rfl (S.nocell _ (PySem.mem_of_lookup hy))
    · have e := S.free _ (PySem.mem_of_lookup hy) rfl
      dsimp only at e
      subst e
      exact ⟨cc, rfl⟩
  · have z : false = true := z
    cases z
  · obtain ⟨hi, ha⟩ := start_at h2
    obtain ⟨u, hu, rv⟩ := r.get ha
    have hp : ps[i]? = some y := by
      have lt : i < ps.length := by omega
      have z := List.getElem?_take_of_lt (l := N) lt
      rw [S.pre] at z
      exact z.trans h1
    have hy := S.par y (List.mem_of_getElem? hp)
    refine ⟨u, rv, .inl ⟨hy, ?_⟩⟩
    have mem := zip_at hp hu
    cases e : (ps.zip us).reverse.lookup y with
    | some z =>
      have m2 := PySem.mem_of_lookup e
      rw [List.mem_reverse] at m2
      show (ps.zip us).reverse.lookup y = some u
      rw [e, zip_of ndp i hp hu m2]
    | none =>
      have := List.lookup_eq_none_iff.mp e (y, u) (List.mem_reverse.mpr mem)
      simp at this
  · obtain ⟨_, rfl⟩ := one h
    exact ⟨vc, oc, kp _ _ (e0.bs _ _ hcc).1, hoc⟩
  · obtain ⟨_, rfl⟩ := one h
    exact (e0.bs _ _ hcc).2
  · unfold L2.start
    rw [List.length_append, List.length_map, List.length_replicate]
    show vs.length + (N.length - vs.length) = N.length
    omega
end Mw
/-! ### the def of such an __init__ -/
namespace Mw
open PySem PySem.Spec PyProof.Rows L2
structure IniF (K : PySem.W.Frag) (Pg : Program) (qual : Str) (st : Stmt) (f C cda cc : Addr) (fd : FuncData) : Prop where
  ex : ∃ (oc : Value) (od : Option Addr) (kV doc pm : Value) (an : Option Addr) (ct : Value) (osl : Array (Option Value)) (ccl cl : Value) (cdd cld : Option Addr) (vs : Array Value) (ccs csl : Array (Option Value)) (file : Str) (tf : Tok),
    fd = PySem.W.ksFn "__init__" qual (defArgs st) (defBody st) (defScope st) .none kV doc pm an (.ref cda) ct cc ∧ K.lookup f = some ⟨oc, od, .func fd, osl⟩ ∧ PySem.W.codeIn K (.ref cda) qual = true ∧
    K.lookup cda = some ⟨ccl, cdd, .fields vs, ccs⟩ ∧ vs[2]? = some (.str file tf) ∧ ((Pg.main.file : Str) == file) = true ∧ K.lookup cc = some ⟨cl, cld, .cell (some (.ref C)), csl⟩
  top : (Pg.main.scope.names.lookup ("super" : Str)).isSome = false
  sup : PySem.W.nsIn K mainGlobals "super" = some none
  thr : PySem.W.nsIn K PySem.cStatics "thirdparty.any" = some none
  par : PySem.W.ks_superIn K C C "__init__" = some (some (.builtin "ValueError.__init__"))
  isV : PySem.W.subIn K (.ref C) (.type "ValueError") = some true
  isC : PySem.W.mroIn K C (.ref C) = some true
section
variable {cx : CXT} {P : Program} {w : World} {K : PySem.W.Frag} {mg : Str → Option Value} {base : Heap}
theorem fn_ini {R : Rel} {qual self : Str} {st : Stmt} {f C cda cc : Addr} {fd : FuncData} {N ps : List Str} {k : Nat} {sp : Sp} {e : Expr} {rest : List Stmt} {p0 p1 p2 p3 p4 : Pos} {ar : Arg} (F : IniF K P qual st f C cda cc fd) (T : OexC K C) (S : IniScope N (self :: ps) (defScope st))
    (hb : defBody st = .Expr (.Call (.Attribute (.Call (.Name "super" p0) [] [] p1) "__init__" p2) [e] [] p3) p4 :: rest) (har : ((defArgs st).posonlyargs ++ (defArgs st).args).head? = some ar) (hself : ar.arg = self)
    (henv : ∀ (L f : Addr) (cd : Value) (cc : Addr), interactive (PySem.W.ksEnv qual (defScope st) L f cd cc) = false ∧ swapsWith (.Call (.Attribute (.Call (.Name "super" p0) [] [] p1) "__init__" p2) [e] [] p3) none p4.line (PySem.W.ksEnv qual (defScope st) L f cd cc) = pure false ∧
      starEach [e] (PySem.W.ksEnv qual (defScope st) L f cd cc) = (false, eval e (PySem.W.ksEnv qual (defScope st) L f cd cc)) :: starEach [] (PySem.W.ksEnv qual (defScope st) L f cd cc) ∧
      ∃ pl : Sem Bool, eval (.Call (.Attribute (.Call (.Name "super" p0) [] [] p1) "__init__" p2) [e] [] p3) (PySem.W.ksEnv qual (defScope st) L f cd cc) = (do
        let ov ← attributeBase (.Call (.Name "super" p0) [] [] p1) "__init__" (PySem.W.ksEnv qual (defScope st) L f cd cc) (eval (.Call (.Name "super" p0) [] [] p1) (PySem.W.ksEnv qual (defScope st) L f cd cc))
        standAt p2.atName
        let (f0, first) ← holding [ov] (getMethod ov "__init__" pl)
        callWith p3 f0 first (backTo p3 (starEach [e] (PySem.W.ksEnv qual (defScope st) L f cd cc))) []))
    (ln : ∀ vs H Q E, sp vs H Q E → vs.length = (self :: ps).length)
    (body : ∀ (A : Around) (out : List Env) (s : Shared) (H : Hp) (vs : List V) (Q : VK) (E : XK), Rm k (A.deeper (PySem.W.ksEnv qual (defScope st) s.heap.objs.size f (.ref cda) cc)) → R out s H → sp vs H Q E →
      ∃ (a : Addr) (te : TE) (t : TS), vs.head? = some (.ref a) ∧ H a = some (exo a C none) ∧ PE (iniCx cx P w K mg base N qual (defScope st) f (.ref cda) cc A out s H E) e te ∧ PSs (iniCx cx P w K mg base N qual (defScope st) f (.ref cda) cc A out s H E) rest t ∧
        te (L2.start N vs) H fun _ H1 => H1 a = some (exo a C none) ∧ t { nx := fun _ H' => Q .non H', rt := Q } (L2.start N vs) H1) : FnR P w K mg base cx R (k + 1) f fd (self :: ps) sp := by
  obtain ⟨oc, od, kV, doc, pm, an, ct, osl, ccl, cl, cdd, cld, cvs, ccs, csl, file, tf, rfl, look, code, lcd, lvs, hfile, lcc⟩ := F.ex
  refine ⟨ln, ?_⟩
  intro A out s H args us vs Q E room e0 hR binds rel promise
  have stay : ∀ b o, base.get? b = some o → s.heap.get? b = some o := fun b o z => (e0.bs b o z).1
  have inK : K.In s.heap := e0.mod.kin.keeps stay
  refine PySem.ks_codeAny_call_defAt (fd := PySem.W.ksFn "__init__" qual (defArgs st) (defBody st) (defScope st) .none kV doc pm an (.ref cda) ct cc) (body := defBody st) (binds := (self :: ps).zip us) room.r.depth (inK _ _ look) rfl (e0.mod.nolimit.keeps stay) (PySem.W.codeRec_of inK code) rfl binds S.nocell (fun y hy => S.par _ (List.of_mem_zip (a := y.1) (b := y.2) hy).1) (fun h₁ hns kp => ?_) S.co S.gen S.kind
  obtain ⟨a, te, t, hv, ha, pe, pss, q⟩ := body A out s H vs Q E ⟨room.r.deeper _, room.g⟩ hR promise
  have I : Inv (iniCx cx P w K mg base N qual (defScope st) f (.ref cda) cc A out s H E) [] (L2.start N vs) H { s with heap := h₁, toks := s.toks + ((self :: ps).zip us).length } := ini_start S room.r.hd e0 (ln _ _ _ _ promise) rel (e0.mod.kin _ _ lcc) rfl hns kp
  have leave : ∀ {σ' : L2.St} {H' : Hp} {v : V} {u : Value} {s' : Shared}, Inv (iniCx cx P w K mg base N qual (defScope st) f (.ref cda) cc A out s H E) [] σ' H' s' → RelV v u → Q v H' → CE out P w H s Q u s' := by
    intro σ' H' v u s' J rv q
    exact ⟨v, H', J.os, J.bare, J.base, J.hok, rv, q⟩
  obtain ⟨vs', rfl⟩ : ∃ vs', vs = .ref a :: vs' := by
    cases vs with
    | nil => cases hv
    | cons x r =>
      cases hv
      exact ⟨r, rfl⟩
  obtain ⟨us', rfl⟩ : ∃ us', us = .ref a :: us' := by
    cases rel with
    | @cons _ u0 _ ur ra rw' =>
      obtain rfl : u0 = Value.ref a := ra
      exact ⟨ur, rfl⟩
  rw [hb]
  obtain ⟨nm, q0, Nn, bs, bm, sn, sub, ab, col, dd, k0, k1, k2, k3, k5, hC, hbm⟩ := T.cls
  have hcl : PySem.W.clsIn K C = some { name := nm, bases := bs, mro := .ref C :: bm, ns := Nn, qualname := q0, hasDict := true, slotNames := sn, subclasses := sub, abstract := ab, collection := col, hasDel := false } := by unfold PySem.W.clsIn; rw [hC] <;> rfl
  refine PySem.ks_wpAt_execs_cons (PySem.ks_wpAt_Expr_any ?_ (henv _ _ _ _).1 (henv _ _ _ _).2.1)
  obtain ⟨pl, hpl⟩ := (henv s.heap.objs.size f (.ref cda) cc).2.2.2
  refine PySem.ks_wpAt_MethodCall ?_ hpl
  have inK1 : K.In h₁ := inK.keeps kp
  have get0 := @exo_at P w H h₁ a C none I.hok ha
  obtain ⟨t1, ho⟩ := get0
  have bk1 : ∀ b o, base.get? b = some o → h₁.get? b = some o := fun b o z => kp _ _ (stay _ _ z)
  obtain ⟨mb, nb, hboot⟩ := e0.mod.blt
  subst hself
  refine PySem.ks_wpAt_super_base (env := PySem.W.ksEnv qual (defScope st) s.heap.objs.size f (.ref cda) cc) S.sup S.cls (by decide) rfl (inK1 _ _ look) rfl har rfl (inK1 _ _ lcd) rfl lvs hfile F.top ?_
  refine PySem.W.ks_loadName_global S.kind S.sup (Calls.loadGlobal_builtin (env := PySem.W.ksEnv qual (defScope st) s.heap.objs.size f (.ref cda) cc) (e0.mod.glob.keeps bk1) (PySem.W.mg_none_of e0.mod.kin e0.mod.glob F.sup) (nb.keeps bk1) ((hboot _ (by decide +kernel)).trans PyProof.Rows.Boot.«super») ⟨rfl, ?_⟩)
  refine wpAny_loadName_free S.kind S.cls rfl ⟨_, inK1 _ _ lcc, rfl⟩ ?_
  have ndp : (ar.arg :: ps).Nodup := by
    rw [← S.pre]
    exact S.nd.sublist (List.take_sublist _ _)
  refine wpAny_loadName_local S.kind (S.par _ List.mem_cons_self) hns (v := .ref a) ?_ ?_
  · show ((ar.arg :: ps).zip (.ref a :: us')).reverse.lookup ar.arg = some (.ref a)
    have mem : (ar.arg, Value.ref a) ∈ (ar.arg :: ps).zip (.ref a :: us') := List.mem_cons_self
    cases z : ((ar.arg :: ps).zip (.ref a :: us')).reverse.lookup ar.arg with
    | some y =>
      have m2 := PySem.mem_of_lookup z
      rw [List.mem_reverse] at m2
      rw [zip_of ndp 0 rfl rfl m2]
    | none =>
      have := List.lookup_eq_none_iff.mp z (ar.arg, .ref a) (List.mem_reverse.mpr mem)
      simp at this
  refine PySem.ks_wpAny_isType_cls (inK1 _ _ hC) rfl ⟨rfl, ?_⟩
  refine PySem.ks_wpAny_call_super (inK1 _ _ hC) rfl ho rfl (fun c z => nomatch z) (PySem.W.looks_mroIn inK1 F.isC) (fun h' hso k' => ?_)
  have I1 := I.kept (h' := h') (t' := s.toks + ((ar.arg :: ps).zip (.ref a :: us')).length) k'
  have inK2 := inK1.keeps k'
  have ho2 := k' _ _ ho
  have aC : a ≠ C := fun z => by
    have y := inK1 _ _ hC
    rw [← z, ho] at y
    cases y
  have parE : PySem.W.alongIn K "__init__" ((((Value.ref C :: bm).dropWhile (· != .ref C)).drop 1)) = some (some (.builtin "ValueError.__init__")) := by
    have z := F.par
    unfold PySem.W.ks_superIn at z
    rw [hcl] at z
    exact z
  refine PySem.W.kxs_getMethod PySem.W.kxs_ValueError hso (PySem.W.looks_opaque inK2 F.thr) (l₀ := Value.ref C :: bm) (fun A Q E s k q => wpAny_bind ((PySem.W.looks_clsIn inK2 hcl) A _ E s k (wpAny_pure q))) rfl inK2 parE ?_ aC (by decide) ?_
  · exact PySem.W.Looks.andThen (a := .ref C) (fun A2 Q2 E2 s2 k2 q2 => wpAny_typeOf_ref (k2 _ _ ho2) q2) (PySem.W.looks_subIn inK2 F.isV)
  have I2 := ClX.pin_new (o := PySem.W.kxs_mw "ValueError.__init__" a) (h' := h'.push (PySem.W.kxs_mw "ValueError.__init__" a)) (a := h'.objs.size) (t' := s.toks + ((ar.arg :: ps).zip (.ref a :: us')).length + 1) I1 (fun b o z => Heap.get?_push_of_some _ z) (Nat.le_refl _) (Heap.get?_push_at rfl rfl) (fun v z => nomatch z)
  show wpAny _ _ (callWith p3 (Value.ref h'.objs.size) [] (backTo p3 (starEach [e] (PySem.W.ksEnv qual (defScope st) s.heap.objs.size f (.ref cda) cc))) []) _ _ _
  rw [(henv s.heap.objs.size f (.ref cda) cc).2.2.1]
  refine PySem.W.kxs_callWith (i := "ValueError.__init__") (x := a) rfl (Calls.evalArgs_plain ?_)
  refine Calls.spliced_cons (thn (pe.run _ _ _ _ _ I2 q) fun u s1 ⟨v, H1, I3, r1, ha1, q1⟩ => ?_)
  have pu := ClX.pin_at I3
  refine Calls.spliced_nil ⟨pu, ?_⟩
  obtain ⟨t2, ho3⟩ := exo_at I3.hok ha1
  refine call_mw T I3.kIn ho3 pu (by show 1 ≤ sizeLine; rw [sizeLine_eq]; omega) (fun h3 t3 k3 hx => ?_)
  have J := I3.write (t' := s1.toks) (x := a) (e := a) (o := exo a C none) (by rw [ha1]; exact True.intro) (.inl rfl) k3 ⟨_, hx⟩ (exo_ok hx)
  have eu : upd H1 a (exo a C none) = H1 := by
    funext b
    by_cases hb : b = a
    · rw [hb, upd_same, ha1]
    · rw [upd_ne hb]
  rw [eu] at J
  refine PySem.wpAt_of_wpAny (wpAny_mono (pss.run [] _ _ _ _ (ClX.unpin J) q1) ?_ ?_)
  · intro fl s' done
    have z := body_end done
    cases fl with
    | next =>
      obtain ⟨v, σ', H', J, r, q⟩ := z
      exact leave J r q
    | ret u =>
      obtain ⟨v, σ', H', J, r, q⟩ := z
      exact leave J r q
    | brk => exact z.elim
    | cont => exact z.elim
  · intro e s' z
    exact z
end
end Mw
/-! ### f-strings of any data -/
namespace Mw
open PySem PySem.Spec PyProof.Rows L2
/-- the text of {x} -/
def fmtT : PyData → Str
  | .str y => y
  | d => d.shown
/-- what may stand in an f-string -/
def FmtOk (d : PyData) : Prop := Fit d ∧ (fmtT d).length ≤ sizeLine
def tFmtD (K : PySem.W.Frag) (te : TE) : TE := fun σ H Q => te σ H fun x H1 => ∃ d, Dd K H1 x d ∧ FmtOk d ∧ Q (.str (fmtT d)) H1
theorem pe_fmtD {X : Cx} {k : Nat} {e : Expr} {te : TE} {pos : Pos} (hr : Rm k X.A) (hs : ∃ m, X.base.Ns sysModules m) (he : PE X e te) : PE X (.FormattedValue e (-1) none pos) (tFmtD X.K te) := by
  refine ⟨fun pins s σ H Q I h => ?_⟩
  refine wpAny_FormattedValue_plain (thn (he.run pins s σ H _ I h) fun v s1 hv => ?_)
  obtain ⟨x, H1, I1, r1, d, hd, ⟨⟨f1, f2, f3⟩, f4⟩, q⟩ := hv
  have hu := hr.r.un
  cases hd with
  | non =>
    cases r1
    exact wpAny_formatField_none ⟨.str "None", H1, I1.tok _, ⟨_, rfl⟩, by simpa only [fmtT, PyData.shown] using q⟩
  | bl b =>
    cases r1
    exact wpAny_formatField_bool ⟨.str (if b then "True" else "False"), H1, I1.tok _, ⟨_, rfl⟩, by simpa only [fmtT, PyData.shown] using q⟩
  | int i =>
    obtain ⟨t, rfl⟩ := r1
    exact wpAny_formatField_int (of_decide_eq_true (by simpa only [PyData.showable] using f1)) ⟨.str (toString i), H1, I1.tok _, ⟨_, rfl⟩, by simpa only [fmtT, PyData.shown] using q⟩
  | str y =>
    obtain ⟨t, rfl⟩ := r1
    exact wpAny_formatField_str ⟨.str y, H1, I1, ⟨t, rfl⟩, q⟩ ⟨.str y, H1, I1.tok _, ⟨_, rfl⟩, q⟩ f4
  | lst hl ha =>
    obtain ⟨as, hR, no⟩ := Dd.reads I1 hs (.lst hl ha) r1
    cases r1
    exact formatField_of_reads hR f1 (fun _ => no) hr.g (by omega) (fun b o e => e) (fun h' u tk keep => ⟨.str _, H1, I1.kept keep, ⟨_, rfl⟩, q⟩) f3
  | tup hl ha =>
    obtain ⟨as, hR, no⟩ := Dd.reads I1 hs (.tup hl ha) r1
    cases r1
    exact formatField_of_reads hR f1 (fun _ => no) hr.g (by omega) (fun b o e => e) (fun h' u tk keep => ⟨.str _, H1, I1.kept keep, ⟨_, rfl⟩, q⟩) f3
  | dic hl h1 h2 =>
    obtain ⟨as, hR, no⟩ := Dd.reads I1 hs (.dic hl h1 h2) r1
    cases r1
    exact formatField_of_reads hR f1 (fun _ => no) hr.g (by omega) (fun b o e => e) (fun h' u tk keep => ⟨.str _, H1, I1.kept keep, ⟨_, rfl⟩, q⟩) f3
end Mw
/-! ### own errors as values: their fields, what they are -/
namespace Mw
open PySem PySem.Spec PyProof.Rows L2
section
variable {X : Cx} {e o : Expr} {te : TE} {n : Str} {pos : Pos} {C : Addr}
/-- err.f -/
def tErF (K : PySem.W.Frag) (f : Str) (te : TE) : TE := fun σ H Q => te σ H fun x H1 => ∃ (a C dx : Addr) (fs : List (Str × V)) (v : V), x = .ref a ∧ XfC K C ∧ PySem.W.findIn K (.ref C) f = some none ∧ H1 a = some (exo a C (some dx)) ∧ H1 dx = some (exd dx fs) ∧ fs.lookup f = some v ∧ Q v H1
theorem pe_erF (he : PE X e te) (hb : attributeBase e n X.env (eval e X.env) = eval e X.env := by rfl) : PE X (.Attribute e n pos) (tErF X.K n te) := by
  refine ⟨fun pins s σ H Q I h => ?_⟩
  refine attr_of hb (thn (he.run pins s σ H _ I h) fun u s1 hh => ?_)
  obtain ⟨x, H1, I1, rx, a, C, dx, fs, v, ex, T, hno, ea, ed, l, q⟩ := hh
  subst ex
  obtain rfl : u = Value.ref a := rx
  obtain ⟨t1, ho⟩ := exo_at I1.hok ea
  obtain ⟨mA, hns, hr⟩ := exd_at I1.hok ed
  obtain ⟨od, ho2, hl⟩ := lookIn_ns hns
  obtain ⟨u, hu, ru⟩ := RelO.some_of (v := v) (o := mA n) (by rw [← l]; exact hr n)
  have J : PySem.W.InstAt s1.heap a { cls := .ref C, dict := some dx, data := .fields #[.ref t1, .none, .none, .none, .bool false, .none] } C (some od) := ⟨ho, rfl, rfl, ho2⟩
  exact HandSPX.exc_get I1.kIn J T.ga T.gg T.exC (PySem.W.findObj_own T.hdC hno rfl (by rw [hl, hu])) (handed_of ru) ⟨v, H1, I1.tok _, ru, q⟩
/-- isinstance(err, c) -/
def rIsEr (K : PySem.W.Frag) : List V → Hp → VK → Prop := fun xs H Q => ∃ (a D : Addr) (dx : Option Addr) (c : V) (cv : Value) (b : Bool), xs = [.ref a, c] ∧ H a = some (exo a D dx) ∧ (∀ d, dx = some d → ∃ fs, H d = some (exd d fs)) ∧ ExcC K D ∧ (∀ u, RelV c u → u = cv) ∧ PySem.W.kitOne K (.ref D) cv = some b ∧ Q (.bl b) H
theorem call_isEr : CallR X (.builtin "isinstance") (rIsEr X.K) := by
  intro pins s σ H xs us Q I r h
  obtain ⟨a, D, dx, c, cv, b, rfl, ha, hdx, C, hcv, e, q⟩ := h
  cases r with
  | cons r1 rr =>
    cases rr with
    | cons r2 rr =>
      cases rr
      cases r1
      have ec := hcv _ r2
      subst ec
      obtain ⟨t1, ho⟩ := exo_at I.hok ha
      have at_ : ∃ od, PySem.W.InstAt s.heap a { cls := .ref D, dict := dx, data := .fields #[.ref t1, .none, .none, .none, .bool false, .none] } D od := by
        cases dx with
        | none => exact ⟨none, ho, rfl, rfl, trivial⟩
        | some d =>
          obtain ⟨fs, hd⟩ := hdx d rfl
          obtain ⟨mA, hns, _⟩ := exd_at I.hok hd
          obtain ⟨od, es, ep, ho2, _⟩ := hns
          exact ⟨some od, ho, rfl, rfl, ho2⟩
      obtain ⟨od, at_⟩ := at_
      have hcl : (PySem.W.clsIn X.K D).isSome = true := by
        obtain ⟨cd, hc, _⟩ := PySem.W.any_some C.hd
        rw [hc] <;> rfl
      refine PySem.W.kia_one (PySem.W.kitx_exc hcl C.hg C.hk C.hs C.ha C.hn C.ht C.hm) I.kIn at_ e (fun z => nomatch z) (fun tk => ?_)
      exact ⟨.bl b, H, I.kept (t' := tk) fun _ _ z => z, rfl, q⟩
end
/-! an error is made: its args, itself -/
def born (h : Heap) (C : Addr) (us : List Value) : Heap := (h.push (PySem.W.kdv_tup us)).push (PySem.HandSPX.excO C h.objs.size)
theorem born_old {h : Heap} {C : Addr} {us : List Value} : ∀ b o, h.get? b = some o → (born h C us).get? b = some o :=
  fun _ _ z => Heap.get?_push_of_some _ (Heap.get?_push_of_some _ z)
theorem born_new {h : Heap} {C : Addr} {us : List Value} : (born h C us).get? (h.objs.size + 1) = some (PySem.HandSPX.excO C h.objs.size) := by
  unfold born
  heap_get
theorem born_inv {X : Cx} {pins : List (Addr × Obj)} {σ : L2.St} {H : Hp} {s : Shared} {C : Addr} {us : List Value} (I : Inv X pins σ H s) :
    Inv X pins σ (upd H (s.heap.objs.size + 1) (exo (s.heap.objs.size + 1) C none)) { s with heap := born s.heap C us } :=
  I.laid (t' := s.toks) (h' := born s.heap C us) born_old (Nat.le_add_right _ 1) (exo_ok born_new)
/-- C(e, ..), C with its own __init__: a new error -/
def tMkE (C : Addr) (sp : Sp) (ta : TA) (E : XK) : TE := fun σ H Q => ta σ H fun vs H1 => vs.length ≤ 1000 ∧ ∀ a, H1 a = none → sp (.ref a :: vs) (upd H1 a (exo a C none)) (fun v H2 => v = .non ∧ Q (.ref a) H2) E
/-- what is known of such a class -/
structure MkC (K : PySem.W.Frag) (C fI : Addr) : Prop where
  o : OexC K C
  i : PySem.W.findIn K (.ref C) "__init__" = some (some (.ref fI))
  t : PySem.W.typeIn K (.ref fI) = some (.type "function")
section
variable {X : Cx} {cx : CXT} {R : Rel} {k : Nat} {ps : List Str} {sp : Sp} {E : XK} {x : Str} {p pos : Pos} {e : Expr} {es : List Expr} {ta : TA} {C fI : Addr} {fd : FuncData}
/-- the __init__ has come back -/
theorem made_after {pins : List (Addr × Obj)} {σ : L2.St} {H : Hp} {s : Shared} {a : Addr} {Q : VK} {r : Result} {s' : Shared} (hx : Passes cx X E) (I : Inv X pins σ H s)
    (done : CR cx X.stack X.prog X.w H s (fun v H2 => v = .non ∧ Q (.ref a) H2) E r s') : PySem.W.InitBack a (fun r s2 => match r with | .ok (.ret u) => EP X pins σ Q u s2 | .ok _ => False | .error z => X.xe z s2) r s' := by
  cases r with
  | error z => exact hx pins σ H s z s' I done
  | ok fl =>
    cases fl with
    | ret u =>
      obtain ⟨v, H2, w1, w2, w3, w4, rv, ev, fin⟩ := done
      subst ev
      exact ⟨rv, I.after ⟨.ref a, H2, w1, w2, w3, w4, rfl, fin⟩⟩
    | next => exact done.elim
    | brk => exact done.elim
    | cont => exact done.elim
theorem pe_mkE (T : MkC X.K C fI) (F1 : FnR X.prog X.w X.K X.mg X.base cx R k fI fd ps sp) (hr : Rm (k + 1) X.A) (hb : Binds X.K fd ps []) (hR : ∀ s H, R X.stack s H) (hx : Passes cx X E) (hg : Gl X x) (hm : X.mg x = some (.ref C)) (ha : PA X (e :: es) ta)
    (hdb : (x == ("__debug__" : Str)) = false := by decide) (he : starEach (e :: es) X.env = (false, eval e X.env) :: starEach es X.env := by rfl) (hpl : (backTo pos (starEach es X.env)).any (·.1) = false := by rfl) :
    PE X (.Call (.Name x p) (e :: es) [] pos) (tMkE C sp ta E) := by
  constructor
  intro pins s σ H Q I ask
  obtain ⟨_, _, _, _, bm, _, _, _, _, _, _, _, _, _, _, hC, hbm⟩ := T.o.cls
  refine wpAny_Call_Name_kw (ld_glob I hg hm (PySem.W.callWith_K (h₀ := X.base) I.ok.mod.kin T.o.kC (thn (ha.run pos pins s σ H _ I ask) ?_) he hpl) hdb)
  rintro us s1 ⟨vs, H1, I1, rel, short, ready⟩
  refine ⟨I1.kIn, wpAny_call ?_⟩
  have J := born_inv (C := C) (us := us) I1
  have few : us.length ≤ sizeLine := by
    have := rel.length
    have := sizeLine_eq
    omega
  have now := ready _ (I1.hok.fresh (Nat.le_add_right _ 1))
  have all : Vals (V.ref (s1.heap.objs.size + 1) :: vs) (Value.ref (s1.heap.objs.size + 1) :: us) := .cons rfl rel
  have bound := hb { s1 with heap := born s1.heap C us } (Value.ref (s1.heap.objs.size + 1) :: us) J.kIn (by
    rw [List.append_nil, ← all.length]
    exact F1.ln _ _ _ _ now)
  rw [List.append_nil] at bound
  exact PySem.HandSPX.call_own F.excBase_ValueError (fun Y => PySem.HandSPX.refsVE_contains Y bm hbm) (I1.kIn _ _ hC) (PySem.W.looks_findIn I1.kIn T.i) (fun self => PySem.W.bind_fn I1.kIn self T.t) few
    (codeAny_mono (F1.go _ X.stack _ _ _ _ _ _ E ⟨hr.r.make C us [], hr.g⟩ (J.env0.make C us []) (hR _ _) bound all now) fun r s' done => made_after hx J done)
end
end Mw
/-! ### own errors made by name: the names go to the own __init__, __new__ lets them go -/
namespace PySem
namespace MwK
open PySem.W PySem.Calls PyProof.Rows PySem.HandSPX
section
variable {prog : Program} {w : World} {M : Model} {A : Around} {Er : Value → Shared → Prop} {Re : Result → Shared → Prop} {s : Shared} {name qual : Str} {C ns fI : Addr} {bases tail tailB us : List Value} {hasD : Bool} {slots : List Str} {subs : List Value} {abst : Bool} {coll : Option Bool} {dict : Option Addr} {s0 s1 s2 s3 s5 : Option Value} {T nid iid : String} {kws : List (Str × Value)}
theorem checked (F : ExcBaseFacts T nid iid tailB) (same : ∀ x : String, tail.contains (.type x) = tailB.contains (.type x)) {Fin : Unit → Shared → Prop} (isC : s.heap.get? C = some (excClassObj name qual C ns bases tail hasD slots subs abst coll dict s0 s1 s2 s3 s5 nid)) (fin : Fin () s) :
    wpAny M A (checkBuiltinCall nid ⟨.ref C :: us, kws⟩) Fin Er s := by
  obtain ⟨hp, gs, dr, tk, o⟩ := s
  have isT : (Value.ref C :: tail).contains (.type T) = true := by
    rw [List.contains_cons, same, F.hasB]
    exact Bool.or_true _
  have star := F.noStar
  simp only [checkBuiltinCall, F.newKind, F.newSplit,
    F.newRow]
  repeat (first
    | refine wpAny_loadPart_at isC ?_
    | (refine wpAny_isSubtype_exc isC ?_; rw [isT])
    | refine wpAny_staticBase_exc isC ?_
    | refine wpAny_madeBy_exc isC ?_
    | simp only [bne_self_eq_false, Bool.false_eq_true, if_false]
    | wp_step)
  exact fin
theorem laid (F : ExcBaseFacts T nid iid tailB) (same : ∀ x : String, tail.contains (.type x) = tailB.contains (.type x)) (isC : s.heap.get? C = some (excClassObj name qual C ns bases tail hasD slots subs abst coll dict s0 s1 s2 s3 s5 nid)) (few : us.length ≤ sizeLine)
    (fin : Re (.ok (.ret (.ref (s.heap.objs.size + 1)))) { s with heap := Mw.born s.heap C us }) : codeAny (model prog w) A (.builtin nid ⟨.ref C :: us, kws⟩) Re s := by
  obtain ⟨hp, gs, dr, tk, o⟩ := s
  have ends := F.ends
  have isT : (Value.ref C :: tail).contains (.type T) = true := by
    rw [List.contains_cons, same, F.hasB]
    exact Bool.or_true _
  have isA : (Value.ref C :: tail).contains (.type "AttributeError") = false := by
    rw [List.contains_cons, same, F.noAttr]
    rfl
  have isN : (Value.ref C :: tail).contains (.type "NameError") = false := by
    rw [List.contains_cons, same, F.noName]
    rfl
  refine codeAny_builtinAt F.entry (show wpAt _ _ _ (Builtin.«BaseException.__new__» _) _ _ _ from ?_)
  unfold Builtin.«BaseException.__new__»
  refine wpAt_bind (show wpAt _ _ _ (stack >>= _) _ _ _ from wpAt_bind (wpAt_stack fun at_ below => wpAt_of_wpAny ?_))
  wp_walk
  refine wpAt_of_wpAny ?_
  rw [F.owner]
  repeat (first
    | with_reducible refine wpAny_madeHere_exc F.canon isC ?_
    | with_reducible refine wpAny_loadPart_at isC ?_
    | (with_reducible refine wpAny_isSubtype_exc isC ?_; first | rw [isT] | rw [isA] | rw [isN])
    | wp_step)
  show Re _ _
  rw [Heap.size_push]
  exact fin
theorem run (F : ExcBaseFacts T nid iid tailB) (same : ∀ x : String, tail.contains (.type x) = tailB.contains (.type x)) {Fn : Fin → Shared → Prop} (isC : s.heap.get? C = some (excClassObj name qual C ns bases tail hasD slots subs abst coll dict s0 s1 s2 s3 s5 nid)) (few : us.length ≤ sizeLine)
    (ini : W.Looks (model prog w) s.heap (typeLookup (.ref C) "__init__") (some (.ref fI))) (bnd : ∀ z, W.Looks (model prog w) s.heap (bindSpecial (.ref fI) z) (.ref fI, [z]))
    (fin : codeAny (model prog w) A (.call (.ref fI) ⟨.ref (s.heap.objs.size + 1) :: us, kws⟩)
      (fun r z => match r with
        | .ok (.ret v) => v = .none ∧ Fn (.done (.ret (.ref (s.heap.objs.size + 1)))) z
        | .ok _ => False
        | .error e => Er e z) { s with heap := Mw.born s.heap C us }) : wpAny (model prog w) A (Builtin.«type.__call__» ⟨.ref C :: us, kws⟩) Fn Er s := by
  obtain ⟨hp, gs, dr, tk, o⟩ := s
  repeat (first
    | with_reducible refine wpAny_loadPart_at isC ?_
    | with_reducible refine wpAny_madeBy_exc isC ?_
    | wp_step)
  refine codeAny_call_builtin_code (Code.quiet_builtin _ F.quiet) (checked F same isC (laid F same isC few (show wpAny _ _ _ _ _ _ from ?_)))
  have old := Mw.born_old (h := hp) (C := C) (us := us)
  have isC2 := old _ _ isC
  have new := Mw.born_new (h := hp) (C := C) (us := us)
  have self : (Value.ref C :: tail).contains (.ref C) = true := by simp
  have ini2 := ini.keeps old
  have bnd2 := (bnd (.ref (hp.objs.size + 1))).keeps old
  unfold isInstance
  repeat (first
    | with_reducible refine wpAny_loadPart_at new ?_
    | (with_reducible refine wpAny_isSubtype_exc isC2 ?_; rw [self])
    | wp_step)
  refine ini2.at (wpAny_holding (wpAny_bind (bnd2.at (wpAny_bind (wpAny_call (codeAny_mono fin fun r z k => ?_))))))
  cases r with
  | error e => exact k
  | ok fl =>
    cases fl with
    | ret v =>
      obtain ⟨rfl, k⟩ := k
      first
        | exact wpAny_pure (wpAny_pure k)
        | (wp_walk; exact k)
    | next => exact k.elim
    | brk => exact k.elim
    | cont => exact k.elim
theorem called (F : ExcBaseFacts T nid iid tailB) (same : ∀ x : String, tail.contains (.type x) = tailB.contains (.type x)) (isC : s.heap.get? C = some (excClassObj name qual C ns bases tail hasD slots subs abst coll dict s0 s1 s2 s3 s5 nid)) (few : us.length ≤ sizeLine)
    (ini : W.Looks (model prog w) s.heap (typeLookup (.ref C) "__init__") (some (.ref fI))) (bnd : ∀ z, W.Looks (model prog w) s.heap (bindSpecial (.ref fI) z) (.ref fI, [z]))
    (fin : codeAny (model prog w) (A.under (.builtin "type.__call__" ⟨.ref C :: us, kws⟩)) (.call (.ref fI) ⟨.ref (s.heap.objs.size + 1) :: us, kws⟩) (W.InitBack (s.heap.objs.size + 1) Re) { s with heap := Mw.born s.heap C us }) :
    codeAny (model prog w) A (.call (.ref C) ⟨us, kws⟩) Re s := by
  obtain ⟨hp, gs, dr, tk, o⟩ := s
  have look := tc_lookup
  have bind := tc_bind (.ref C)
  have isTy : (⟨hp, gs, dr, tk, o⟩ : Shared).TypeIs (.ref C) "type" := ⟨_, isC, rfl⟩
  refine codeAny_of_tree (show wpAny _ _ (callAny (.ref C) ⟨us, kws⟩) _ _ _ from ?_)
  repeat (any_goals (first
    | assumption
    | with_reducible refine wpAny_loadPart_at isC ?_
    | wp_step))
  refine ⟨rfl, codeAny_call_builtin_at (Code.quiet_builtin _ (by decide +kernel)) entry_typeCall (wpAny_check_type_call_sub isC (run F same isC few ini bnd (codeAny_mono fin fun r z k => ?_)))⟩
  cases r with
  | error e => exact k
  | ok fl => cases fl <;> exact k
end
end MwK
end PySem
/-! ### own errors made by name; a call that leaves defaults -/
namespace Mw
open PySem PySem.Spec PyProof.Rows L2
/-- C(k=e, ..), C with its own __init__ -/
def tMkEK (C : Addr) (n : Nat) (sp : Sp) (gV : List V → List V) (tk : TA) (E : XK) : TE := fun σ H Q => tk σ H fun zs H1 => zs.length = n ∧ ∀ a, H1 a = none → sp (.ref a :: gV zs) (upd H1 a (exo a C none)) (fun v H2 => v = .non ∧ Q (.ref a) H2) E
section
variable {X : Cx} {cx : CXT} {R : Rel} {k : Nat} {ps : List Str} {sp : Sp} {E : XK} {x : Str} {p pos : Pos} {e : Expr} {es : List Expr} {ta : TA} {C fI : Addr} {fd : FuncData}
theorem pe_mkEK {kws : List Keyword} {ks : List Str} {g : List Value → List Value → List Value} {gV : List V → List V} {tk : TA} (T : MkC X.K C fI) (F1 : FnR X.prog X.w X.K X.mg X.base cx R k fI fd ps sp) (hr : Rm (k + 1) X.A) (hb : KBn X.K fd ps 1 ks g (fun vs zs => vs ++ gV zs)) (hR : ∀ s H, R X.stack s H) (hx : Passes cx X E)
    (hg : Gl X x) (hm : X.mg x = some (.ref C)) (hkw : PK X kws tk) (hall : (backToKw pos (keywordEach kws X.env)).all (·.1.isSome) = true := by rfl) (hks : (backToKw pos (keywordEach kws X.env)).filterMap (·.1) = ks := by rfl) (hdb : (x == ("__debug__" : Str)) = false := by decide)
    (plain : ((backTo pos (starEach [] X.env)).any (·.1) || (backToKw pos (keywordEach kws X.env)).any (·.1.isNone)) = false := by rfl) :
    PE X (.Call (.Name x p) [] kws pos) (tMkEK C ks.length sp gV tk E) := by
  constructor
  intro pins s σ H Q I ask
  obtain ⟨_, _, _, _, bm, _, _, _, _, _, _, _, _, _, _, hC, hbm⟩ := T.o.cls
  refine wpAny_Call_Name_kw (ld_glob I hg hm (PySem.W.callWith_KW0 (h₀ := X.base) I.ok.mod.kin T.o.kC hall (thn (hkw.run pos pins s σ H _ I ask) ?_) plain) hdb)
  rintro ws s1 ⟨zs, H1, I1, rel, many, ready⟩
  rw [hks]
  refine ⟨I1.kIn, wpAny_call ?_⟩
  have J := born_inv (C := C) (us := []) I1
  have now := ready _ (I1.hok.fresh (Nat.le_add_right _ 1))
  have all : Vals (V.ref (s1.heap.objs.size + 1) :: gV zs) (g [Value.ref (s1.heap.objs.size + 1)] ws) := hb.rel (vs := [.ref (s1.heap.objs.size + 1)]) (us := [.ref (s1.heap.objs.size + 1)]) (.cons rfl .nil) rel
  have bound := hb.to { s1 with heap := born s1.heap C [] } [Value.ref (s1.heap.objs.size + 1)] ws J.kIn rfl (rel.length.symm.trans many)
  exact PySem.MwK.called F.excBase_ValueError (fun Y => PySem.HandSPX.refsVE_contains Y bm hbm) (I1.kIn _ _ hC) (Nat.zero_le _) (PySem.W.looks_findIn I1.kIn T.i) (fun self => PySem.W.bind_fn I1.kIn self T.t)
    (codeAny_mono (F1.go _ X.stack _ _ _ _ _ _ E ⟨hr.r.make C [] (ks.zip ws), hr.g⟩ (J.env0.make C [] (ks.zip ws)) (hR _ _) bound all now) fun r s' done => made_after hx J done)
end
/-- a def with defaults, called without them -/
structure DefD (P : Program) (w : World) (K : PySem.W.Frag) (mg : Str → Option Value) (base : Heap) (x : Str) (k : Nat) (ps : List Str) (dvs : List V) (sp : Sp) : Prop where
  ex : ∃ (f : Addr) (fd : FuncData) (ds : List Value), mg x = some (.ref f) ∧ PySem.W.keepIn K (.ref f) = true ∧ Binds K fd ps ds ∧ Vals dvs ds ∧ FnG P w K mg base k f fd ps sp
def tGoD (sp : Sp) (dvs : List V) (t : TA) : TE := fun σ H Q => t σ H fun vs H1 => sp (vs ++ dvs) H1 Q (fun _ _ _ => False)
section
variable {X : Cx} {k : Nat} {ps : List Str} {sp : Sp} {x : Str} {p pos : Pos} {e : Expr} {es : List Expr} {t : TA} {dvs : List V}
theorem pe_goD (D : DefD X.prog X.w X.K X.mg X.base x k ps dvs sp) {j : Nat} (hr : Rm j X.A) (ha : PA X (e :: es) t) (hj : k ≤ j := by decide) (hg : Gl X x := by rfl) (hdb : (x == ("__debug__" : Str)) = false := by decide)
    (he : starEach (e :: es) X.env = (false, eval e X.env) :: starEach es X.env := by rfl) (hpl : (backTo pos (starEach es X.env)).any (·.1) = false := by rfl) :
    PE X (.Call (.Name x p) (e :: es) [] pos) (tGoD sp dvs t) := by
  obtain ⟨f, fd, ds, g, kp, b, rd, F⟩ := D.ex
  constructor
  intro pins s σ H Q I ask
  refine wpAny_Call_Name_kw (ld_glob I hg g (PySem.W.callWith_K (h₀ := X.base) I.ok.mod.kin kp (thn (ha.run pos pins s σ H _ I ask) ?_) he hpl) hdb)
  rintro us s1 ⟨vs, H1, I1, r, q⟩
  have all : Vals (vs ++ dvs) (us ++ ds) := r.append rd
  refine ⟨I1.kIn, wpAny_call (codeAny_mono (callG F (hr.mono hj) (us := us ++ ds) (b s1 us I1.kIn (all.length.symm.trans (F.ln _ _ _ _ q))) I1 all q) ?_)⟩
  intro res s' z
  cases res with
  | error e => exact z.elim
  | ok fl => cases fl <;> first | exact z | exact z.elim
end
end Mw
namespace Mw
open PySem PySem.Spec PyProof.Rows L2
/-- written data, step by step -/
local macro_rules | `(tactic| walk_at "e1c") => `(tactic| repeat' (first | exact e1_int | exact e1_str | exact e1_bl | exact e1_non | exact a1_nil | refine a1_cons ?_ ?_ | exact e1_dis0 | exact e1_dis1 | refine e1_tup ?_ (by decide) | refine e1_lst ?_ (by decide) | exact e1_neg e1_int))
theorem powC {a b : Int} {C : Int → Int → Prop} {K : PySem.W.Frag} {U : Wo} {M : Hp} {σ : L2.St} (c : C a b) : E1 K U M (tOp (rI C fun i j => .int (i ^ j.toNat)) (tC (.int a)) (tC (.int b))) σ (.int (a ^ b.toNat)) := e1_op e1_int e1_int (r1_I c)
/-! ### what an error may keep -/
/-- data that is copied in so many levels -/
def cpB : Nat → PyData → Bool
  | _, .none => true
  | _, .bool _ => true
  | _, .int _ => true
  | _, .str _ => true
  | 0, _ => false
  | n + 1, .list ds => decide (ds.length ≤ 100) && ds.all (cpB n)
  | n + 1, .tuple ds => decide (ds.length ≤ 100) && ds.all (cpB n)
  | _ + 1, .dict [] => true
  | _ + 1, .dict [(.str _, .int _)] => true
  | _, _ => false
def OddM (d : PyData) : Prop := okd 6 2000 d = true ∧ cpB 3 d = true
theorem fmt_fits {d : PyData} (h : okd 6 2000 d = true) : FmtOk d ∧ (fmtT d).length ≤ 500000 := by
  have fit := okd_fit h (by decide) (by decide)
  rw [okd_iff] at h
  have a := PyData.shown_le 200 (by decide) d h.2.1
  have key : (PyData.shown d).length ≤ 500000 := by
    have := h.2.2.2
    omega
  have b : (fmtT d).length ≤ 500000 := by
    cases d with
    | str y =>
      have w := h.2.2.2
      simp only [PyData.weight] at w
      exact Nat.le_trans (show y.length ≤ 2000 from w) (show 2000 ≤ 500000 by decide)
    | none => exact key
    | bool _ => exact key
    | int _ => exact key
    | list _ => exact key
    | tuple _ => exact key
    | dict _ => exact key
  exact ⟨⟨fit, Nat.le_trans b (by decide)⟩, b⟩
section
variable {P : Program} {w : World} {K : PySem.W.Frag} {mg : Str → Option Value} {base : Heap}
def oddA : List PyData := [.none, .bool true, .int (-1), .str "pass", .str "", .str "mark", .tuple [], .tuple [.none], .tuple [.str "pas"], .tuple [.str "is", .str "a"], .tuple [.str "mark", .int 1], .list [], .dict []]
def oddB : List PyData := [.tuple [.str "row", .tuple [.str "pass"]], .tuple [.str "not", .tuple [.str "mark"]], .tuple [.str "set", .str "A", .int 1], .tuple [.str "take", .str "a", .str "a"], .list [.str "pass"], .dict [(.str "a", .int 1)]]
def oddC : List PyData := [.tuple [.str "loop"], .tuple [.int (-1), .int 0], .tuple [.bool true, .int 1], .int (10 ^ 40 + 7), .str "a=1", .tuple [.str "is", .str "pass", .int 1]]
abbrev spOdd (K : PySem.W.Frag) : Sp := spD K 0 1 (fun _ => True) (fun _ d => OddM d)
theorem nice_of {ds : List PyData} (h : ds.all (fun d => okd 6 2000 d && cpB 3 d) = true) : ∀ d ∈ ds, OddM d := fun d hd => by
  have := List.all_eq_true.mp h d hd
  rw [Bool.and_eq_true] at this
  exact this
theorem ok_odd {f : Addr} {fd : FuncData} (F : Fun K "_law_odd" "_law_odd" s__law_odd f fd) (T : Blt mg) (G__law_pick : Def P w K mg base "_law_pick" 3 ["state", "some"] (spPick K)) : FnG P w K mg base 4 f fd ["state"] (spOdd K) := by
  refine fnG F sc__law_odd (fun vs H Q E h => spD_len h) (fun cdv A outer s H vs Q E hr h => ?_)
  obtain ⟨U, W, n, ws, ds, o, rfl, ok, hn, hd, hl, _, q⟩ := h
  obtain rfl : ds = [] := List.length_eq_zero_iff.mp hl
  cases hd
  have a : At U n (U.view H) H := At.here ok
  refine ⟨_, pss_cons (ps_set (i := 1) sc__law_odd.nd rfl (.inl rfl) (pe_lst (pa_cons pe_non (pa_cons pe_bl (pa_cons (pe_un un_neg pe_int) (pa_cons pe_str (pa_cons pe_str (pa_cons pe_str (pa_cons (pe_tup pa_nil) (pa_cons (pe_tup (pa_cons pe_non pa_nil)) (pa_cons (pe_tup (pa_cons pe_str pa_nil)) (pa_cons (pe_tup (pa_cons pe_str (pa_cons pe_str pa_nil))) (pa_cons (pe_tup (pa_cons pe_str (pa_cons pe_int pa_nil))) (pa_cons (pe_lst pa_nil) (pa_cons pe_dnewK pa_nil)))))))))))))))
        (pss_cons (ps_set (i := 1) sc__law_odd.nd rfl (.inl rfl) (pe_op op_cat (pv 1) (pe_lst (pa_cons (pe_tup (pa_cons pe_str (pa_cons (pe_tup (pa_cons pe_str pa_nil)) pa_nil))) (pa_cons (pe_tup (pa_cons pe_str (pa_cons (pe_tup (pa_cons pe_str pa_nil)) pa_nil))) (pa_cons (pe_tup (pa_cons pe_str (pa_cons pe_str (pa_cons pe_int pa_nil)))) (pa_cons (pe_tup (pa_cons pe_str (pa_cons pe_str (pa_cons pe_str pa_nil)))) (pa_cons (pe_lst (pa_cons pe_str pa_nil)) (pa_cons (pe_disp (pps_cons pe_str pe_int pps_nil) (by rfl) (by rfl) (fun z => by cases z) (by decide)) pa_nil)))))))))
        (pss_one (ps_ret (pe_go G__law_pick hr (pa_cons (pv 0) (pa_cons (pe_op op_cat (pv 1) (pe_lst (pa_cons (pe_tup (pa_cons pe_str pa_nil)) (pa_cons (pe_tup (pa_cons (pe_un un_neg pe_int) (pa_cons pe_int pa_nil))) (pa_cons (pe_tup (pa_cons pe_bl (pa_cons pe_int pa_nil))) (pa_cons (pe_op op_add (pe_op op_pow pe_int pe_int) pe_int) (pa_cons pe_str (pa_cons (pe_tup (pa_cons pe_str (pa_cons pe_str (pa_cons pe_int pa_nil)))) pa_nil)))))))) pa_nil)))))), ?_⟩
  refine s1_asg (K := K) (d := .list oddA) a (by unfold oddA; walk_at "e1c") fun v1 H1 a1 s1 d1 => ?_
  refine s1_asg (K := K) (d := .list (oddA ++ oddB)) a1 (e1_op (e1_var rfl d1) (d2 := .list oddB) (by unfold oddB; walk_at "e1c") (r1_cat (by decide))) fun v2 H2 a2 s2 d2 => ?_
  refine s3_ret a2 hn (e3_pick o rfl (E1.e3 (d := .list ((oddA ++ oddB) ++ oddC)) (e1_op (e1_var rfl d2) (d2 := .list oddC) ?_ (r1_cat (by decide))) ⟨_, .inl rfl, by decide, by decide, nice_of (by decide +kernel)⟩)) fun v d H3 r ok3 s3 d3 => q v d H3 r ok3 ((s1.trans s2).trans s3) d3
  unfold oddC
  refine e1_lst ?_ (by decide)
  refine a1_cons (by walk_at "e1c") (a1_cons (by walk_at "e1c") (a1_cons (by walk_at "e1c") (a1_cons ?_ (by walk_at "e1c"))))
  exact E1.is (e1_op (powC ⟨by decide, by decide, by decide⟩) e1_int r1_int) (congrArg PyData.int (by decide +kernel))
end
end Mw
/-! ### {x: e for x in texts} -/
namespace Mw
open PySem PySem.Spec PyProof PyProof.Rows L2
theorem put_new {kvs : List (Key × V)} {k : Key} {z : V} (h : k ∉ kvs.map (·.1)) : putK kvs k z = kvs ++ [(k, z)] := by
  unfold putK
  refine if_neg fun e => h ?_
  obtain ⟨p, hp, e⟩ := List.any_eq_true.mp e
  exact List.mem_map.mpr ⟨p, hp, of_decide_eq_true e⟩
section
variable {K : PySem.W.Frag} {U : Wo} {M : Hp} {σ : L2.St} {tv : TE}
theorem e1_dc {wi : TI} {j : Nat} {vs : List Nat} {xs : List Str} {f : Str → PyData} (h : I1 K U M wi σ (strsD xs)) (nd : xs.Nodup) (z : xs.length ≤ 1000) (hw : ∀ x, wipe ((wipe σ vs).set j (some x)) vs = wipe σ vs) (hj : ∀ x, ((wipe σ vs).set j (some x))[j]? = some (some x))
    (he : ∀ (U' : Wo) M' x, Same M M' → x ∈ xs → E1 K U' M' tv ((wipe σ vs).set j (some (.str x))) (f x)) : E1 K U M (tDc wi (gName j) tYes (tVar j) tv vs) σ (.dict (xs.map fun x => (.str x, f x))) := fun n H a Q q => h n H a _ fun J H1 ok1 s1 w => by
  intro D nD
  have lx : (strsD xs).length = xs.length := List.length_map ..
  have nD0 : U.view H1 D = none := by
    cases e : U.view H1 D with
    | none => rfl
    | some o =>
      rw [U.le _ _ _ e] at nD
      cases nD
  have off : Same (U.view H1) (hideV D (U.view H1)) := fun b o e => hide_at e (fun q => by
    rw [q, nD0] at e
    cases e)
  let Iv : Nat → Hp → Prop := fun i H' => U.ok n H' ∧ Same (U.view H1) (hideV D (U.view H')) ∧ ∃ kvs : List (Key × V), U.view H' D = some (.dK kvs) ∧ kvs.map (·.1) = (xs.take i).map Sum.inr ∧ DdAll K (hideV D (U.view H')) (kvs.map (·.2)) ((xs.take i).map f)
  obtain ⟨okD, sD, fD, _⟩ := U.new (o := .dK []) ok1 nD rfl
  refine ⟨fun i m H' => m = xs.length - i ∧ i ≤ xs.length ∧ Iv i H', ⟨xs.length, by simp, Nat.zero_le _, okD, off.trans (hide_same sD), [], fD, rfl, .nil⟩, ?_⟩
  rintro i m H2 ⟨rfl, hi, ok2, s2, kvs, f2, k2, da⟩
  have g2 : Same (U.view H1) (U.view H2) := s2.trans (hide_le _ _)
  by_cases hlt : i < xs.length
  · refine .inr ⟨w.goes i H2 (by omega) g2, Iv (i + 1), fun H' p' => ⟨xs.length - (i + 1), by omega, rfl, hlt, p'⟩, fun x H3 y => ?_⟩
    obtain ⟨rfl, d, hd, dx⟩ := w.yields i H2 x H3 (by omega) g2 y
    obtain ⟨t, ht, rfl⟩ : ∃ t, xs[i]? = some t ∧ d = .str t := by
      rw [strsD, List.getElem?_map, List.getElem?_eq_getElem hlt] at hd
      exact ⟨xs[i], List.getElem?_eq_getElem hlt, (Option.some.inj hd).symm⟩
    cases dx
    have hm : t ∈ xs := List.mem_of_getElem? ht
    refine ⟨hw (.str t), rd_yes (iteT ⟨.str t, hj _, ?_⟩)⟩
    have aP : At (U.hide D (.dK kvs)) n (U.view H1) H3 := ⟨⟨ok2, f2⟩, s2⟩
    refine he (U.hide D (.dK kvs)) (U.view H1) t (a.up.trans s1) hm n H3 aP _ fun u H4 ok4 s4 du => ?_
    have fresh : (Sum.inr t : Key) ∉ kvs.map (·.1) := by
      rw [k2]
      intro e
      obtain ⟨t2, h2, e2⟩ := List.mem_map.mp e
      cases e2
      obtain ⟨k, hk⟩ := List.mem_iff_getElem?.mp h2
      rw [List.getElem?_take] at hk
      split at hk
      · rename_i lt
        have a1 := List.getElem?_eq_some_iff.mp hk
        have a2 := List.getElem?_eq_some_iff.mp ht
        obtain ⟨l1, b1⟩ := a1
        obtain ⟨l2, b2⟩ := a2
        exact absurd (b1.trans b2.symm) (List.pairwise_iff_getElem.mp nd k i l1 l2 lt)
      · cases hk
    have len : kvs.length ≤ 1000 := by
      have e := congrArg List.length k2
      rw [List.length_map, List.length_map, List.length_take] at e
      omega
    refine ⟨kvs, Sum.inr t, rfl, U.le _ _ _ ok4.2, Nat.lt_of_le_of_lt len (by decide), ?_⟩
    rw [put_new fresh]
    obtain ⟨ok5, f5, o5⟩ := U.own (o := .dK (kvs ++ [((Sum.inr t : Key), u)])) ok4.1 ok4.2 rfl
    have k5 : Same (hideV D (U.view H4)) (hideV D (U.view (upd H4 D (.dK (kvs ++ [((Sum.inr t : Key), u)]))))) := fun b v e => hide_at (o5 b v (hide_of e).1 (hide_of e).2) (hide_of e).1
    have s4' : Same (hideV D (U.view H3)) (hideV D (U.view H4)) := s4
    have st : xs.take (i + 1) = xs.take i ++ [t] := by
      rw [List.take_add_one, ht]
      rfl
    refine ⟨ok5, (s2.trans s4').trans k5, _, f5, ?_, ?_⟩
    · rw [List.map_append, k2, st, List.map_append]
      rfl
    · rw [List.map_append, st, List.map_append]
      exact ((da.same s4').same k5).app (.cons ((show Dd K (hideV D (U.view H4)) u _ from du).same k5) .nil)
  · have e : i = xs.length := by omega
    subst e
    rw [List.take_length] at k2 da
    refine .inl ⟨lx ▸ w.stops H2 g2, q _ _ ok2 (s1.trans g2) ?_⟩
    refine .dic f2 ?_ ?_
    · have e1 : kvs.map (fun p => kV p.1) = xs.map V.str := by
        have z1 : (kvs.map (·.1)).map kV = kvs.map fun p => kV p.1 := by rw [List.map_map]; rfl
        rw [← z1, k2, List.map_map]
        rfl
      have e2 : (xs.map fun x => ((.str x : PyData), f x)).map (·.1) = strsD xs := by
        rw [List.map_map]
        rfl
      rw [e1, e2]
      exact str_vals xs
    · have e2 : (xs.map fun x => ((.str x : PyData), f x)).map (·.2) = xs.map f := by
        rw [List.map_map]
        rfl
      rw [e2]
      exact da.same (hide_le _ _)
end
end Mw
/-! ### jobs: lambdas that are called further in -/
namespace Mw
open PySem PySem.Spec PyProof.Rows L2
/-- the state out, s, H has come of s0, H0, with frames of its own -/
structure Since (fs : List Addr) (s0 : Shared) (H0 : Hp) (out : List Env) (s : Shared) (H : Hp) : Prop where
  un : Un fs [] H0 H s0.heap s.heap
  fr : ∀ b ∈ frs out, b ∈ fs ∨ s0.heap.get? b = none
theorem no_mem {b : Addr} : b ∉ ([] : List Addr) := fun z => nomatch z
theorem Since.on {fs : List Addr} {s0 : Shared} {H0 : Hp} {X : Cx} {pins : List (Addr × Obj)} {σ : L2.St} {H : Hp} {s : Shared} (I : Inv X pins σ H s) (hst : X.stack = X.env :: X.outer) (hfr : X.env.frame = some X.env.locals) (hex : X.ex = [])
    (h : Since fs s0 H0 X.outer X.s_0 X.H_0) : Since fs s0 H0 X.stack s H := by
  have noEx : ∀ {b : Addr}, b ∉ X.ex := fun {b} z => no_mem (hex ▸ z : b ∈ ([] : List Addr))
  have apart : ∀ b o, s0.heap.get? b = some o → b ∉ fs → b ∉ X.fs := by
    intro b o e nb hm
    rcases h.fr b hm with z | z
    · exact nb z
    · rw [z] at e
      cases e
  refine ⟨⟨?_, ?_, ?_, ?_, ?_, ?_, ?_⟩, ?_⟩
  · intro b o e n hb _
    exact I.base.keep b o (h.un.keep b o e n hb no_mem) (h.un.free b o e n no_mem) (apart b o e hb) noEx
  · intro b o e n hb _
    obtain ⟨sl, z⟩ := h.un.any e n no_mem
    obtain ⟨sl2, z2⟩ := I.base.any z (h.un.free b o e n no_mem) noEx
    exact ⟨sl2, z2⟩
  · intro b o e n _
    obtain ⟨o2, z⟩ := h.un.there b o e no_mem
    exact I.base.free b o2 z (h.un.free b o e n no_mem) noEx
  · intro b o e _
    obtain ⟨o2, z⟩ := h.un.there b o e no_mem
    exact I.base.there b o2 z noEx
  · exact fun b xs e => I.base.tups b xs (h.un.tups b xs e)
  · exact fun b o u e => I.base.frzs b o u (h.un.frzs b o u e)
  · intro b ps e
    obtain ⟨m1, z1⟩ := h.un.tbls b ps e
    obtain ⟨m2, z2⟩ := I.base.tbls b _ z1
    exact ⟨m1 ++ m2, by rw [z2, Array.append_assoc]⟩
  · intro b hb
    rw [hst] at hb
    obtain ⟨e, he, q⟩ := List.mem_filterMap.mp hb
    rcases List.mem_cons.mp he with rfl | he
    · refine .inr ?_
      rw [hfr] at q
      cases q
      cases z : s0.heap.get? X.env.locals with
      | none => rfl
      | some o =>
        obtain ⟨o2, z2⟩ := h.un.there _ o z no_mem
        exact absurd (Nat.lt_of_lt_of_le (Heap.lt_size z2) I.ok.above) (Nat.lt_irrefl _)
    · exact h.fr b (List.mem_filterMap.mpr ⟨e, he, q⟩)
/-- f is called without arguments: tl tells what is asked for, wherever R holds -/
structure Job (P : Program) (w : World) (K : PySem.W.Frag) (mg : Str → Option Value) (base : Heap) (R : Rel) (k : Nat) (f : Addr) (tl : XK → Hp → VK → Prop) : Prop where
  isF : ∀ out s H, R out s H → PySem.W.FnAt f s.heap
  go : ∀ (A : Around) (out : List Env) (s : Shared) (H : Hp) (Q : VK) (E : XK), Rm k A → Env0 P w K mg base A out s H → R out s H → tl E H Q → codeAny (model P w) A (.call (.ref f) ⟨[], []⟩) (CR (L2.CX P w) out P w H s Q E) s
section
variable {X : Cx} {pins : List (Addr × Obj)} {σ : L2.St} {H : Hp} {s : Shared}
theorem job_of {scope : Scope} {f c' : Addr} {params : Arguments} {body : Expr} {pm ctv : Value} {k : Nat} {tb : XK → TE} (I : Inv X pins σ H s) (L : LamX.LamS X.env.scope scope)
    (hf : s.heap.get? f = some (PySem.W.kla_obj "<lambda>" (X.env.qual ++ "<lambda>") params body scope (cloFrom X.env.cells scope.names []) pm c' ctv)) (hfn : H f = none) (hff : f ∉ frs X.stack)
    (hbind : bindArgs (PySem.W.kla_fn "<lambda>" (X.env.qual ++ "<lambda>") params body scope (cloFrom X.env.cells scope.names []) pm (.ref c') ctv) ⟨[], []⟩ = pure [])
    (hbody : ∀ (A : Around) (out : List Env) (s1 : Shared) (H1 : Hp) (E : XK), Rm k (A.deeper (LamX.lamEnv X scope s1.heap.objs.size f c')) → PE (LamX.lamCx X A out s1 H1 E scope f c') body (tb E)) :
    Job X.prog X.w X.K X.mg X.base (Since (frs X.stack) s H) (k + 1) f (fun E H1 Q => H1 c' = some (LamX.CodeO c' (X.env.qual ++ "<lambda>")) ∧ tb E σ H1 Q) := by
  have there : ∀ out s1 H1, Since (frs X.stack) s H out s1 H1 → s1.heap.get? f = some (PySem.W.kla_obj "<lambda>" (X.env.qual ++ "<lambda>") params body scope (cloFrom X.env.cells scope.names []) pm c' ctv) := fun out s1 H1 h => h.un.keep f _ hf hfn hff no_mem
  refine ⟨fun out s1 H1 h => ⟨_, _, _, _, there out s1 H1 h⟩, ?_⟩
  rintro A out s1 H1 Q E room e0 since ⟨hc, ht⟩
  obtain ⟨⟨oc, vs, t, k1, k2, k3⟩, _, _⟩ := e0.hok c' _ hc
  refine PySem.W.kla_callFunE room.r.depth (there out s1 H1 since) rfl L.co L.gen rfl ⟨c', oc, vs, t, rfl, k1, k2, k3⟩ ?_
  rw [hbind]
  refine wpAny_pure (wpAny_newFunctionEnv ?_ ?_ ?_ L.kind)
  · exact fun y hy => (L.own y hy).2
  · exact fun y hy => nomatch hy
  intro h₁ ns but
  have lim : s1.heap.NoLimit := e0.mod.nolimit.keeps fun b o z => (e0.bs b o z).1
  refine ⟨lim.fresh _ but, ?_⟩
  have keeps : ∀ b o, s1.heap.get? b = some o → h₁.get? b = some o := fun b o e => but.extBut b o (Nat.ne_of_lt (Heap.lt_size e)) (Heap.get?_push_of_some _ e)
  have J := LamX.lam_start2 (E := E) (f := f) (c' := c') (tk := s1.toks + ([] : List (Str × Value)).length) I L e0 room.r.hd since.un ns keeps
  refine PySem.W.kla_codeExpr (wpAny_mono ((hbody A out s1 H1 E ⟨room.r.deeper _, room.g⟩).run [] _ _ H1 Q J ht) ?_ ?_)
  · rintro v s2 ⟨v', H', J', rv, q⟩
    exact ⟨v', H', J'.os, J'.bare, J'.base, J'.hok, rv, q⟩
  · exact fun e s2 z => z
end
/-- job() -/
theorem pe_job {X : Cx} {W : WX} {R : Rel} {k i : Nat} {nm : Str} {f : Addr} {tl : XK → Hp → VK → Prop} {p1 p2 : Pos} (J : Job X.prog X.w X.K X.mg X.base R k f tl) (hr : Rm k X.A) (hR : ∀ pins σ H s, Inv X pins σ H s → R X.stack s H) (tk : Takes X W)
    (hN : X.N[i]? = some nm) (hv : Vis X.env.scope nm) (hd : (nm == ("__debug__" : Str)) = false := by decide) (hcd : (nm == ("__classdict__" : Str)) = false := by decide) :
    PE X (.Call (.Name nm p1) [] [] p2) (fun σ H Q => σ[i]? = some (some (.ref f)) ∧ ∃ (E0 : XK) (Q0 : VK), tl E0 H Q0 ∧ (∀ v H', Q0 v H' → Q v H') ∧ ∀ cls d H', E0 cls d H' → W cls d σ H') := by
  constructor
  rintro pins s σ H Q I ⟨hs, E0, Q0, ht, toQ, toE⟩
  refine wpAny_Call_Name_kw (thn ((pe_var (pos := p1) (i := i) hN hv hd hcd).run pins s σ H (fun v H1 => v = .ref f ∧ H1 = H) I ⟨.ref f, hs, rfl, rfl⟩) ?_)
  rintro u s1 ⟨v, H1, I1, r1, rfl, rfl⟩
  obtain rfl : u = Value.ref f := r1
  have rel := hR _ _ _ _ I1
  refine PySem.W.callWith_F0 (J.isF _ _ _ rel) (wpAny_call (codeAny_mono (J.go X.A X.stack s1 H1 Q0 E0 hr I1.env0 rel ht) ?_))
  intro res s2 done
  cases res with
  | error e =>
    obtain ⟨a, B, H2, cls, d, k1, k2, k3, k4, k5, k6, k7, k8⟩ := done
    exact passAt tk σ pins H1 s1 e s2 I1 ⟨a, B, H2, cls, d, k1, k2, k3, k4, k5, k6, k7, toE _ _ _ k8⟩
  | ok fl =>
    cases fl with
    | ret u =>
      obtain ⟨v, H2, k1, k2, k3, k4, k5, k6⟩ := done
      exact I1.after ⟨v, H2, k1, k2, k3, k4, k5, toQ _ _ k6⟩
    | next => exact done.elim
    | brk => exact done.elim
    | cont => exact done.elim
/-! the lambda is made -/
def TabP (H : Hp) (P : Addr) (q : Str) : Prop := LamX.TabS H P q
/-- H1 is H, or its table at P has grown by a code object -/
structure Grown (H H1 : Hp) (P c' : Addr) (q : Str) : Prop where
  tab : LamX.TabS H1 P q
  code : H1 c' = some (LamX.CodeO c' q)
  is : H1 = H ∨ ∃ ps ps' : Array Value, H P = some (.tbl ps) ∧ H c' = none ∧ H1 = upd (upd H P (.tbl ps')) c' (LamX.CodeO c' q)
section
variable {X : Cx} {pins : List (Addr × Obj)} {σ : L2.St} {H : Hp} {s : Shared}
theorem lam_new {c P : Addr} {params : Arguments} {body : Expr} {scope : Scope} {pos : Pos} {E Q : Value → Shared → Prop} (I : Inv X pins σ H s) (TB : LamX.TabB X.base X.mg c P) (hcode : X.env.code = .ref c) (hT : LamX.TabS H P (X.env.qual ++ "<lambda>"))
    (hdef : defaultsOf params X.env = ([], [])) (hfree : ∀ y ∈ scope.names, y.2 = .free → ∃ c, X.env.cells.lookup y.1 = some c)
    (h : ∀ (f c' : Addr) (pm ctv : Value) (H1 : Hp) (s' : Shared), Inv X pins σ H1 s' → Grown H H1 P c' (X.env.qual ++ "<lambda>") →
      s'.heap.get? f = some (PySem.W.kla_obj "<lambda>" (X.env.qual ++ "<lambda>") params body scope (cloFrom X.env.cells scope.names []) pm c' ctv) → H1 f = none → f ∉ frs X.stack → Q (.ref f) s') :
    wpAny (model X.prog X.w) X.A (eval (.Lambda params body scope pos) X.env) Q E s := by
  obtain ⟨ps, isT, triples, known⟩ := hT
  have tabAt : s.heap.get? P = some { cls := .none, data := .fields ps } := I.hok P _ isT
  have builtins : s.heap.BuiltinsAt X.mg P := TB.bm.keeps I.bk
  have high : ∀ f, s.heap.objs.size ≤ f → f ∉ frs X.stack := by
    intro f hf z
    rcases List.mem_cons.mp (I.stkSub _ z) with e | e
    · exact absurd (Nat.lt_of_lt_of_le (e ▸ I.lt) hf) (Nat.lt_irrefl _)
    · exact I.nofs hf e
  refine PySem.W.kla_eval hdef ?_
  cases found : codeAmong pos ps.toList with
  | some cv =>
    obtain ⟨c', rfl, isC⟩ := known pos cv found
    refine PySem.W.kla_makeFunctionHit (mg := X.mg) (c := c) (P := P) (ps := ps) (closure_ok hfree) I.ok.glob (I.mod.glob.keeps I.bk) hcode (TB.code.keeps I.bk) tabAt triples found builtins ?_
    intro ctv h' tk more size
    refine h h'.objs.size c' ((X.mg "__name__").getD .none) ctv H _ (I.kept (t' := tk) fun b o e => ?_) ⟨⟨ps, isT, triples, known⟩, isC, .inl rfl⟩ (Heap.get?_push_size _ rfl) (I.hok.fresh size) (high _ size)
    exact Heap.get?_push_of_some _ (more b o e)
  | none =>
    refine PySem.W.kla_makeFunction (mg := X.mg) (c := c) (P := P) (ps := ps) (closure_ok hfree) I.ok.glob (I.mod.glob.keeps I.bk) hcode (TB.code.keeps I.bk) tabAt triples found TB.gP builtins ?_
    intro c' ctv h' tk but ge lt record table
    obtain ⟨c2, oc, vs, t, e2, k1, k2, k3⟩ := record
    cases e2
    have size : s.heap.objs.size ≤ h'.objs.size := Nat.le_trans ge (Nat.le_of_lt lt)
    have freeC : H c' = none := I.hok.fresh ge
    have J := LamX.inv_table (q := X.env.qual ++ "<lambda>") (t' := tk) (more := #[rawInt pos.line, rawInt pos.col, .ref c']) (h' := h'.push (PySem.W.kla_obj "<lambda>" (X.env.qual ++ "<lambda>") params body scope (cloFrom X.env.cells scope.names []) ((X.mg "__name__").getD .none) c' ctv)) I isT
      (fun b o hb e => Heap.get?_push_of_some _ (but b o hb e)) (Heap.get?_push_of_some _ table) ge ⟨oc, vs, t, Heap.get?_push_of_some _ k1, k2, k3⟩
    have nP : P ≠ c' := ne_of_none isT freeC
    have rest : ∀ b o, b ≠ P → H b = some o → upd (upd H P (.tbl (ps ++ #[rawInt pos.line, rawInt pos.col, .ref c']))) c' (LamX.CodeO c' (X.env.qual ++ "<lambda>")) b = some o := fun b o hb e => by
      rw [upd_ne (ne_of_none e freeC), upd_ne hb]
      exact e
    have list : (ps ++ #[rawInt pos.line, rawInt pos.col, .ref c']).toList = ps.toList ++ [rawInt pos.line, rawInt pos.col, .ref c'] := by simp
    refine h h'.objs.size c' ((X.mg "__name__").getD .none) ctv _ _ J ⟨⟨ps ++ #[rawInt pos.line, rawInt pos.col, .ref c'], ?_, ?_, ?_⟩, upd_same, .inr ⟨ps, _, isT, freeC, rfl⟩⟩ (Heap.get?_push_size _ rfl) ?_ (high _ size)
    · rw [upd_ne nP, upd_same]
    · rw [list]
      exact PySem.TriplesOk_snoc _ _ _ _ triples
    · intro p2 cv hcv
      rw [list] at hcv
      rcases LamX.among_app _ triples hcv with z | z
      · obtain ⟨c0, e1, e2⟩ := known p2 cv z
        refine ⟨c0, e1, rest _ _ (fun z => ?_) e2⟩
        rw [z, isT] at e2
        exact LamX.codeO_ne ps (Option.some.inj e2).symm
      · exact ⟨c', z, upd_same⟩
    · have n1 : h'.objs.size ≠ c' := Nat.ne_of_gt lt
      have n2 : h'.objs.size ≠ P := Nat.ne_of_gt (Nat.lt_of_lt_of_le (Heap.lt_size tabAt) size)
      rw [upd_ne n1, upd_ne n2]
      exact I.hok.fresh size
end
/-! a def that is handed a lambda -/
abbrev TLam := (XK → Hp → VK → Prop) → Hp → VK → Prop
def spJob (TT : TLam) (tl : XK → Hp → VK → Prop) (f : Addr) : Sp := fun vs H Q _ => vs = [.ref f] ∧ TT tl H Q
structure JobDef (P : Program) (w : World) (K : PySem.W.Frag) (mg : Str → Option Value) (base : Heap) (x : Str) (kj k : Nat) (ps : List Str) (TT : TLam) : Prop where
  ex : ∃ (g : Addr) (fd : FuncData), mg x = some (.ref g) ∧ PySem.W.keepIn K (.ref g) = true ∧ Binds K fd ps [] ∧
    ∀ (fs : List Addr) (s0 : Shared) (H0 : Hp) (f : Addr) (tl : XK → Hp → VK → Prop), Job P w K mg base (Since fs s0 H0) kj f tl → FnR P w K mg base CX0 (Since fs s0 H0) k g fd ps (spJob TT tl f)
def tLamJ (P : Addr) (q : Str) (TT : TLam) (tb : XK → TE) : TE := fun σ H Q => LamX.TabS H P q ∧ ∀ H1 c', Grown H H1 P c' q → TT (fun E H2 Q2 => H2 c' = some (LamX.CodeO c' q) ∧ tb E σ H2 Q2) H1 Q
theorem pe_lamJ {X : Cx} {x a : Str} {kj k j : Nat} {TT : TLam} {c P : Addr} {params : Arguments} {body : Expr} {scope : Scope} {tb : XK → TE} {p lpos pos : Pos} (D : JobDef X.prog X.w X.K X.mg X.base x (kj + 1) k [a] TT) (hr : Rm j X.A) (TB : LamX.TabB X.base X.mg c P) (hcode : X.env.code = .ref c)
    (L : LamX.LamS X.env.scope scope) (hdef : defaultsOf params X.env = ([], [])) (hbind : ∀ (q : Str) (cl : List (Str × Addr)) (pm cv ctv : Value), bindArgs (PySem.W.kla_fn "<lambda>" q params body scope cl pm cv ctv) ⟨[], []⟩ = pure [])
    (hbody : ∀ (A : Around) (out : List Env) (s1 : Shared) (H1 : Hp) (E : XK) (f c' : Addr), Rm kj (A.deeper (LamX.lamEnv X scope s1.heap.objs.size f c')) → PE (LamX.lamCx X A out s1 H1 E scope f c') body (tb E))
    (hj : k ≤ j := by decide) (hg : Gl X x := by rfl) (hdb : (x == ("__debug__" : Str)) = false := by decide) :
    PE X (.Call (.Name x p) [.Lambda params body scope lpos] [] pos) (tLamJ P (X.env.qual ++ "<lambda>") TT tb) := by
  obtain ⟨g, fd, gm, kp, b, made⟩ := D.ex
  constructor
  rintro pins s σ H Q I ⟨hT, h⟩
  refine wpAny_Call_Name_kw (ld_glob I hg gm ?_ hdb)
  refine PySem.W.callWith_K (h₀ := X.base) I.ok.mod.kin kp ?_ (by rfl) (by rfl)
  show wpAny _ _ (spliced ((false, eval (.Lambda params body scope lpos) X.env) :: backTo pos (starEach [] X.env))) _ _ s
  refine Calls.spliced_cons (lam_new I TB hcode hT hdef (L.has I.ok) ?_)
  intro f c' pm ctv H1 s1 I1 grown isF noF offF
  refine Calls.spliced_nil ⟨I1.kIn, ?_⟩
  have job := job_of (tb := tb) I1 L isF noF offF (hbind _ _ _ _ _) (fun A out s2 H2 E hr2 => hbody A out s2 H2 E f c' hr2)
  have F := made (frs X.stack) s1 H1 f _ job
  have bound := b s1 [.ref f] I1.kIn rfl
  rw [List.append_nil] at bound
  refine wpAny_call (codeAny_mono (F.go X.A X.stack s1 H1 _ [.ref f] [.ref f] Q (fun _ _ _ => False) (hr.mono hj) I1.env0 ⟨Un.refl, fun b hb => .inl hb⟩ bound (.cons rfl .nil) ⟨rfl, h H1 c' grown⟩) ?_)
  intro res s2 done
  cases res with
  | error e => exact (show False from done).elim
  | ok fl =>
    cases fl with
    | ret u => exact I1.after done
    | next => exact done.elim
    | brk => exact done.elim
    | cont => exact done.elim
end Mw
/-! ### the law's own call, its table of code objects told -/
namespace Mw
open PySem PySem.Spec PyProof.Rows L2
/-- as fnG, the code object of the def told -/
theorem fnGc {P : Program} {w : World} {K : PySem.W.Frag} {mg : Str → Option Value} {base : Heap} {x qual : Str} {st : Stmt} {f : Addr} {N ps : List Str} {k : Nat} {sp : Sp} {oc dV kV doc pm cdv ct : Value} {an od : Option Addr} {osl : Array (Option Value)}
    (look : K.lookup f = some ⟨oc, od, .func (PySem.W.fnOf x qual (defArgs st) (defBody st) (defScope st) dV kV doc pm an cdv ct), osl⟩) (code : PySem.W.codeIn K cdv qual = true) (S : FnScope N ps (defScope st)) (ln : ∀ vs H Q E, sp vs H Q E → vs.length = ps.length)
    (body : ∀ (A : Around) (outer : List Env) (s : Shared) (H : Hp) (vs : List V) (Q : VK) (E : XK), Rm k (A.deeper (envOfC qual (defScope st) s.heap.objs.size f cdv)) → sp vs H Q E →
      ∃ t, PSs (cxOf CX0 P w K mg base N qual (defScope st) f cdv A outer s H E).nox (defBody st) t ∧ t { nx := fun _ H' => Q .non H', rt := Q } (start N vs) H) :
    FnG P w K mg base (k + 1) f (PySem.W.fnOf x qual (defArgs st) (defBody st) (defScope st) dV kV doc pm an cdv ct) ps sp := by
  refine ⟨ln, ?_⟩
  intro A outer s H args us vs Q E room e0 binds rel promise
  have stay : ∀ b o, base.get? b = some o → s.heap.get? b = some o := fun b o z => (e0.bs b o z).1
  have inK : K.In s.heap := e0.mod.kin.keeps stay
  have named : ∀ y ∈ ps.zip us, (defScope st).names.lookup y.1 = some .local ∨ ((defScope st).names.lookup y.1 = some .cell ∧ ((cellsFrom (s.heap.objs.size + 1) (defScope st).names []).lookup y.1).isSome = true) := by
    intro y hy
    have hp : y.1 ∈ ps := (List.of_mem_zip (a := y.1) (b := y.2) hy).1
    cases S.par y.1 hp with
    | inl z => exact .inl z
    | inr z => exact .inr ⟨z, PySem.W.cellsFrom_some _ _ _ (.inl z)⟩
  refine codeAny_call_function room.r.depth (inK _ _ look) rfl S.co S.gen rfl (PySem.W.codeRec_of inK code) (binds _ _ _ _ ?_)
  refine wpAny_newFunctionEnv_cells S.kind named ?_
  intro env same s1 began
  cases same
  refine ⟨(e0.mod.nolimit.keeps stay).keeps began.toInCall.keep, codeAny_func ?_⟩
  obtain ⟨t, ht, hq⟩ := body A outer s H vs Q E ⟨room.r.deeper _, room.g⟩ promise
  have I := inv_start (CX := CX0) (E := E) (qual := qual) (N := N) S room.r.hd e0 (ln _ _ _ _ promise) rel began
  have leave : ∀ {σ' : L2.St} {H' : Hp} {v : V} {u : Value} {s' : Shared}, Inv (cxOf CX0 P w K mg base N qual (defScope st) f cdv A outer s H E) [] σ' H' s' → RelV v u → Q v H' → CE outer P w H s Q u s' := by
    intro σ' H' v u s' J rv q
    exact ⟨v, H', J.os, J.bare, J.base, J.hok, rv, q⟩
  refine wpAny_mono (ht.nox.run [] s1 (start N vs) H _ I hq) ?_ ?_
  · intro fl s' done
    have z := body_end done
    cases fl with
    | next =>
      obtain ⟨v, σ', H', J, r, q⟩ := z
      exact leave J r q
    | ret u =>
      obtain ⟨v, σ', H', J, r, q⟩ := z
      exact leave J r q
    | brk => exact z.elim
    | cont => exact z.elim
  · intro e s' z
    exact z
/-- nothing is tracked but the script, perhaps, and the table -/
def OnlyT (P : Addr) (H : Hp) : Prop := ∀ b, H b = none ∨ b = P ∨ ∃ ob xs, H b = some (.frz ob (.lst xs))
section
variable {Pg : Program} {w : World} {K : PySem.W.Frag} {mg mb : Str → Option Value}
theorem law_atT {k : Nat} {fa a c P : Addr} {fd : FuncData} {x : Str} {sp : Sp} {s₁ : Shared} {H : Hp} (inK : K.In s₁.heap) (G : s₁.heap.Ns mainGlobals mg) (B : s₁.heap.Ns builtinsNs mb) (B2 : ∀ x : Str, x ≠ "__name__" → mb x = bootBuiltins x) (lim : s₁.heap.NoLimit) (gens : s₁.gens = #[])
    (tabl : s₁.heap.get? P = some (PySem.W.tabObj #[])) (noT : K.lookup P = none) (C : PySem.W.CodeHd s₁.heap c P)
    (main : ∃ (bm : Addr) (ob : Obj), mg "__builtins__" = some (.ref bm) ∧ bm ≠ builtinsNs ∧ s₁.heap.get? bm = some ob ∧ ob.cls = .type "module" ∧ ob.dict = some builtinsNs ∧ ob.data = .plain)
    (list : ∃ u n, s₁.heap.get? a = some { cls := .type "list", data := .seq u n }) (room : Rm k callerA)
    (F : ∀ base : Heap, K.In base → base.Ns mainGlobals mg → (∃ m, base.Ns sysModules m) → LamX.TabB base mg c P → FnG Pg w K mg base k fa fd [x] sp) (sysm : ∃ m, s₁.heap.Ns sysModules m) (binds : ∀ (s : Shared) (u : Value), BindsTo s fd ⟨[u], []⟩ [(x, u)])
    (sp0 : sp [.ref a] H (fun v _ => v = .bl true) fun _ _ _ => False) (tabH : H P = some (.tbl #[])) (only : OnlyT P H) (ok : HOk Pg w H s₁.heap) (alone : ∀ b, H b ≠ none → b = a ∨ b = P) (mine : H a ≠ none → K.lookup a = none) :
    codeAny (model Pg w) callerA (.call (.ref fa) ⟨[.ref a], []⟩) (fun r s' => r = .ok (.ret (.bool true)) ∧ OldK s₁.heap s'.heap ∧ s'.os = s₁.os ∧ AllBare s'.gens) s₁ := by
  obtain ⟨lu, ln, la⟩ := list
  have out : ∀ {b : Addr} {o : Obj}, s₁.heap.get? b = some o → (∀ u n, o.data ≠ .seq u n) → o.data ≠ .fields #[] → H b = none := by
    intro b o e h1 h2
    apply Classical.byContradiction
    intro z
    rcases alone b z with rfl | rfl
    · rw [la] at e
      cases e
      exact h1 _ _ rfl
    · rw [tabl] at e
      cases e
      exact h2 rfl
  have free : ∀ {b : Addr} {o : Obj} {es : Array DictEntry} {ep : Nat}, s₁.heap.get? b = some o → o.data = .dict es ep → H b = none := by
    intro b o es ep e d
    refine out e ?_ ?_
    · intro u n z
      rw [d] at z
      cases z
    · intro z
      rw [d] at z
      cases z
  have ns : ∀ {b : Addr} {m : Str → Option Value}, s₁.heap.Ns b m → (hidT s₁.heap H).Ns b m := by
    rintro b m ⟨o, es, ep, e, d, r⟩
    exact ⟨o, es, ep, hidT_get e (free e d), d, r⟩
  have baseK : K.In (hidT s₁.heap H) := by
    intro b o e
    refine hidT_get (inK b o e) ?_
    apply Classical.byContradiction
    intro z
    rcases alone b z with eb | eb
    · rw [eb] at e z
      rw [mine z] at e
      cases e
    · rw [eb, noT] at e
      cases e
  have M : Mod K mg (hidT s₁.heap H) := by
    refine ⟨baseK, ns G, ⟨mb, ns B, B2⟩, ?_⟩
    obtain ⟨mc, h1, h2⟩ := lim
    exact ⟨mc, ns h1, h2⟩
  have e0 : Env0 Pg w K mg (hidT s₁.heap H) callerA [] s₁ H := by
    refine ⟨rfl, M, fun b o e => of_hidT e, Nat.le_of_eq (hidT_size _ _), trivial, ?_, ok, .of_eq gens⟩
    intro b hb
    cases hb
  have TB : LamX.TabB (hidT s₁.heap H) mg c P := by
    refine ⟨?_, ?_, ?_⟩
    · obtain ⟨o, us, file, tf, flags, tg, inF, text, tt, e1, r1, r2, r3, rest⟩ := C
      refine ⟨o, us, file, tf, flags, tg, inF, text, tt, hidT_get e1 (out e1 ?_ ?_), r1, r2, r3, rest⟩
      · intro u n z
        rw [r2] at z
        cases z
      · intro z
        rw [r2] at z
        cases z
        simp at r3
    · obtain ⟨bm, ob, b1, b2, b3, b4, b5, b6⟩ := main
      have nG : bm ≠ mainGlobals := by
        rintro rfl
        obtain ⟨o, es, ep, e, d, _⟩ := G
        rw [e] at b3
        cases b3
        rw [d] at b6
        cases b6
      have nP : bm ≠ P := by
        rintro rfl
        rw [tabl] at b3
        cases b3
        cases b6
      refine ⟨bm, ob, b1, b2, nG, nP, hidT_get b3 (out b3 ?_ ?_), b4, b5, b6⟩
      · intro u n z
        rw [b6] at z
        cases z
      · intro z
        rw [b6] at z
        cases z
    · intro z
      obtain ⟨o, es, ep, e, d, _⟩ := G
      rw [z, tabl] at e
      cases e
      cases d
  refine codeAny_mono ((F _ baseK (ns G) (sysm.elim fun m z => ⟨m, ns z⟩) TB).go callerA [] s₁ H ⟨[.ref a], []⟩ [.ref a] [.ref a] _ _ room e0 (binds s₁ (.ref a)) (.cons rfl .nil) sp0) ?_
  intro res s' done
  cases res with
  | error e => exact (show False from done).elim
  | ok fl =>
    cases fl with
    | next => exact done.elim
    | brk => exact done.elim
    | cont => exact done.elim
    | ret u =>
      obtain ⟨v, H', os, bare, un, ok', rel, q⟩ := done
      obtain rfl : v = .bl true := q
      obtain rfl : u = Value.bool true := rel
      have same : ∀ b o, b ≠ P → s₁.heap.get? b = some o → s'.heap.get? b = some o := by
        intro b o nb e
        cases z : H b with
        | none => exact un.keep b o e z (fun y => nomatch y) (fun y => nomatch y)
        | some u =>
          rcases only b with y | y | ⟨ob, xs, y⟩
          · rw [z] at y
            cases y
          · exact absurd y nb
          · obtain ⟨e1, _⟩ := ok b _ y
            obtain ⟨e2, _⟩ := ok' b _ (un.frzs b ob _ y)
            rw [e] at e1
            cases e1
            exact e2
      obtain ⟨more, grown⟩ := un.tbls P #[] tabH
      have now : s'.heap.get? P = some (PySem.W.tabObj (#[] ++ more)) := ok' P _ grown
      refine ⟨rfl, ⟨?_, ?_⟩, os, bare⟩
      · intro b o e
        by_cases hb : b = P
        · subst hb
          rw [tabl] at e
          cases e
          exact .inr (.inl ⟨(C.tab tabl).isCodeTable, rfl, #[], more, rfl, now⟩)
        · exact .inl (same b o hb e)
      · intro b o e
        by_cases hb : b = P
        · subst hb
          exact ⟨_, now⟩
        · exact ⟨o, same b o hb e⟩
theorem law_callT {k : Nat} {fa a c P : Addr} {fd : FuncData} {x : Str} {sp : Sp} {s₁ : Shared} {vs : List Value} {ns : List Int} (inK : K.In s₁.heap) (G : s₁.heap.Ns mainGlobals mg) (B : s₁.heap.Ns builtinsNs mb) (B2 : ∀ x : Str, x ≠ "__name__" → mb x = bootBuiltins x) (lim : s₁.heap.NoLimit) (gens : s₁.gens = #[])
    (tabl : s₁.heap.get? P = some (PySem.W.tabObj #[])) (noT : K.lookup P = none) (C : PySem.W.CodeHd s₁.heap c P)
    (main : ∃ (bm : Addr) (ob : Obj), mg "__builtins__" = some (.ref bm) ∧ bm ≠ builtinsNs ∧ s₁.heap.get? bm = some ob ∧ ob.cls = .type "module" ∧ ob.dict = some builtinsNs ∧ ob.data = .plain)
    (ha : s₁.heap.get? a = some { cls := .type "list", data := .seq vs.toArray }) (isInts : IntsAre vs ns) (size : ns.length ≤ sizeLine) (room : Rm k callerA)
    (F : ∀ base : Heap, K.In base → base.Ns mainGlobals mg → (∃ m, base.Ns sysModules m) → LamX.TabB base mg c P → FnG Pg w K mg base k fa fd [x] sp) (sysm : ∃ m, s₁.heap.Ns sysModules m) (binds : ∀ (s : Shared) (u : Value), BindsTo s fd ⟨[u], []⟩ [(x, u)])
    (hsp : ∀ H : Hp, H P = some (.tbl #[]) → OnlyT P H → SqL K H a (ns.map V.int) → sp [.ref a] H (fun v _ => v = .bl true) fun _ _ _ => False) :
    codeAny (model Pg w) callerA (.call (.ref fa) ⟨[.ref a], []⟩) (fun r s' => r = .ok (.ret (.bool true)) ∧ OldK s₁.heap s'.heap ∧ s'.os = s₁.os ∧ AllBare s'.gens) s₁ := by
  have rv := vals_ints isInts
  have len := isInts.length
  have nPa : a ≠ P := by
    rintro rfl
    rw [ha] at tabl
    cases tabl
  let tabs : Hp := upd (fun _ => none) P (.tbl #[])
  have atP : tabs P = some (.tbl #[]) := upd_same
  have offP : ∀ b, b ≠ P → tabs b = none := fun b hb => upd_ne hb
  have okP : HOk Pg w tabs s₁.heap := by
    intro b u z
    by_cases hb : b = P
    · subst hb
      rw [atP] at z
      cases z
      exact tabl
    · rw [offP b hb] at z
      cases z
  cases hk : K.lookup a with
  | some o =>
    have e := inK a o hk
    rw [ha] at e
    cases e
    have only : OnlyT P tabs := by
      intro b
      by_cases hb : b = P
      · exact .inr (.inl hb)
      · exact .inl (offP b hb)
    have seq : SqL K tabs a (ns.map V.int) := .inr ⟨_, vs.toArray, _, hk, rfl, rfl, rfl, by rw [List.size_toArray, len]; exact size, by simpa using rv⟩
    refine law_atT inK G B B2 lim gens tabl noT C main ⟨_, _, ha⟩ room F sysm binds (hsp _ atP only seq) atP only okP ?_ ?_
    · intro b z
      by_cases hb : b = P
      · exact .inr hb
      · exact absurd (offP b hb) z
    · exact fun z => absurd (offP a nPa) z
  | none =>
    let script : Hp := upd tabs a (.frz { cls := .type "list", data := .seq vs.toArray } (.lst (ns.map V.int)))
    have at_ : script a = some (.frz { cls := .type "list", data := .seq vs.toArray } (.lst (ns.map V.int))) := upd_same
    have atP2 : script P = some (.tbl #[]) := (upd_ne (Ne.symm nPa)).trans atP
    have off : ∀ b, b ≠ a → b ≠ P → script b = none := fun b hb hP => (upd_ne hb).trans (offP b hP)
    have only : OnlyT P script := by
      intro b
      by_cases hb : b = a
      · subst hb
        exact .inr (.inr ⟨_, _, at_⟩)
      · by_cases hP : b = P
        · exact .inr (.inl hP)
        · exact .inl (off b hb hP)
    refine law_atT (H := script) inK G B B2 lim gens tabl noT C main ⟨_, _, ha⟩ room F sysm binds (hsp _ atP2 only (.inl (.inr ⟨_, at_⟩))) atP2 only ?_ ?_ (fun _ => hk)
    · intro b u z
      by_cases hb : b = a
      · subst hb
        rw [at_] at z
        cases z
        refine ⟨ha, ?_, vs, _, rv, ha⟩
        rw [List.length_map]
        exact size
      · by_cases hP : b = P
        · subst hP
          rw [atP2] at z
          cases z
          exact tabl
        · rw [off b hb hP] at z
          cases z
    · intro b z
      by_cases hb : b = a
      · exact .inl hb
      · by_cases hP : b = P
        · exact .inr hP
        · exact absurd (off b hb hP) z
end
theorem walk_T {l : PySem.W.OpenLaw} {n k : Nat} {q : Program} {loose : List Str} {XP : (Str → Option Value) → Heap → Prop} {YP : World → Heap → Prop} {d : DefRec} {K : Params → PySem.W.Frag} {sp : PySem.W.Frag → Addr → Sp} {x : Str}
    (most : l.most = some n) (small : n ≤ sizeLine) (plain : d.params.defaults = []) (room : Rm k callerA) (bare : importsNone q = true) (hY : ∀ (w : World) (h : Heap), YP w h → (K w.params).In h)
    (F : ∀ (w : World) (mg : Str → Option Value) (fa : Addr) (h : Heap), YP w h → (K w.params).In h → h.Ns mainGlobals mg → mg d.name = some (.ref fa) →
      ∃ (fd : FuncData) (c P : Addr), (∀ (s : Shared) (u : Value), BindsTo s fd ⟨[u], []⟩ [(x, u)]) ∧ h.get? P = some (PySem.W.tabObj #[]) ∧ (K w.params).lookup P = none ∧ PySem.W.CodeHd h c P ∧
        ∀ base : Heap, (K w.params).In base → base.Ns mainGlobals mg → (∃ m, base.Ns sysModules m) → LamX.TabB base mg c P → FnG l.prog w (K w.params) mg base k fa fd [x] (sp (K w.params) P))
    (hsp : ∀ (K : PySem.W.Frag) (H : Hp) (P a : Addr) (ns : List Int), ns.length ≤ n → H P = some (.tbl #[]) → OnlyT P H → SqL K H a (ns.map V.int) → sp K P [.ref a] H (fun v _ => v = .bl true) fun _ _ _ => False) :
    PySem.W.WalkO q loose XP YP l.row.toRowW d [] (fun f vs => PySem.call f vs) := by
  refine Att.attach_callB most plain ?_
  intro w s₀ s₁ mg mb fa o pm cd doc a vs ns G Y ho hd hcd hmg hobj hints hlen hbits hg
  have inK := hY w _ Y
  obtain ⟨fd, c, P, hb, h1, h2, h3, hF⟩ := F w mg fa _ Y inK G.T.g hmg
  refine law_callT inK G.T.g G.T.b G.T.builtins G.T.nolimit hg h1 h2 h3 G.T.bmain hobj hints (Nat.le_trans hlen small) room hF ((G.T.seer bare).mods.elim fun m z => ⟨m, z.1⟩) hb ?_
  intro H t1 t2 t3
  exact hsp _ H P a ns hlen t1 t2 t3
end Mw
namespace Mw
open PySem PySem.Spec PyProof.Rows L2
/-! ### defs that yield just this -/
/-- the caller says what it yields, as P tells -/
def spX (K : PySem.W.Frag) (m : Nat) (P : List PyData → PyData → Prop) : Sp := fun vs H Q _ => ∃ (U : Wo) (n : Nat) (ds : List PyData) (e : PyData), U.ok n H ∧ DdAll K (U.view H) vs ds ∧ ds.length = m ∧ P ds e ∧
  ∀ v H', U.ok n H' → Same (U.view H) (U.view H') → Dd K (U.view H') v e → Q v H'
theorem spX_len {K : PySem.W.Frag} {m : Nat} {P : List PyData → PyData → Prop} {vs : List V} {H : Hp} {Q : VK} {E : XK} (h : spX K m P vs H Q E) : vs.length = m := by
  obtain ⟨U, n, ds, e, _, hd, l, _⟩ := h
  rw [hd.len, l]
theorem e1_gox {K : PySem.W.Frag} {U : Wo} {M : Hp} {σ : L2.St} {t : TA} {m : Nat} {P : List PyData → PyData → Prop} {ds : List PyData} {e : PyData} (h : A1 K U M t σ ds) (hm : ds.length = m) (hp : P ds e) : E1 K U M (tGo (spX K m P) t) σ e := fun n H a Q q =>
  h n H a _ fun vs H1 ok1 s1 d1 => ⟨U, n, ds, e, ok1, d1, hm, hp, fun v H2 ok2 s2 d2 => q v H2 ok2 (s1.trans s2) d2⟩
theorem e1_goxK {K : PySem.W.Frag} {U : Wo} {M : Hp} {σ : L2.St} {t : TA} {m j : Nat} {P : List PyData → PyData → Prop} {gV : List V → List V} {ds es : List PyData} {e : PyData} (h : A1 K U M t σ ds) (hj : ds.length = j) (g : ∀ H vs, DdAll K H vs ds → DdAll K H (gV vs) es) (hm : es.length = m) (hp : P es e) :
    E1 K U M (tGoK j (spX K m P) gV t) σ e := fun n H a Q q => h n H a _ fun vs H1 ok1 s1 d1 => ⟨d1.len.trans hj, U, n, es, e, ok1, g _ _ d1, hm, hp, fun v H2 ok2 s2 d2 => q v H2 ok2 (s1.trans s2) d2⟩
/-- .. a new object -/
def spXN (K : PySem.W.Frag) (m : Nat) (P : List PyData → PyData → Prop) : Sp := fun vs H Q _ => ∃ (U : Wo) (n : Nat) (ds : List PyData) (e : PyData), U.ok n H ∧ DdAll K (U.view H) vs ds ∧ ds.length = m ∧ P ds e ∧
  ∀ v H', U.ok n H' → Same (U.view H) (U.view H') → Dd K (U.view H') v e → New U H v → Q v H'
theorem spXN_len {K : PySem.W.Frag} {m : Nat} {P : List PyData → PyData → Prop} {vs : List V} {H : Hp} {Q : VK} {E : XK} (h : spXN K m P vs H Q E) : vs.length = m := by
  obtain ⟨U, n, ds, e, _, hd, l, _⟩ := h
  rw [hd.len, l]
theorem e1_goxN {K : PySem.W.Frag} {U : Wo} {M : Hp} {σ : L2.St} {t : TA} {m : Nat} {P : List PyData → PyData → Prop} {ds : List PyData} {e : PyData} (h : A1 K U M t σ ds) (hm : ds.length = m) (hp : P ds e) : E1N K U M (tGo (spXN K m P) t) σ e := fun n H a Q q =>
  h n H a _ fun vs H1 ok1 s1 d1 => ⟨U, n, ds, e, ok1, d1, hm, hp, fun v H2 ok2 s2 d2 nw => q v H2 ok2 (s1.trans s2) d2 (nw.back s1)⟩
theorem e1_goxKN {K : PySem.W.Frag} {U : Wo} {M : Hp} {σ : L2.St} {t : TA} {m j : Nat} {P : List PyData → PyData → Prop} {gV : List V → List V} {ds es : List PyData} {e : PyData} (h : A1 K U M t σ ds) (hj : ds.length = j) (g : ∀ H vs, DdAll K H vs ds → DdAll K H (gV vs) es) (hm : es.length = m) (hp : P es e) :
    E1 K U M (tGoK j (spXN K m P) gV t) σ e := fun n H a Q q => h n H a _ fun vs H1 ok1 s1 d1 => ⟨d1.len.trans hj, U, n, es, e, ok1, g _ _ d1, hm, hp, fun v H2 ok2 s2 d2 _ => q v H2 ok2 (s1.trans s2) d2⟩
theorem dd1 {K : PySem.W.Frag} {H : Hp} {vs : List V} {d : PyData} (h : DdAll K H vs [d]) : ∃ v, vs = [v] ∧ Dd K H v d := by
  cases h with
  | cons a b =>
    cases b
    exact ⟨_, rfl, a⟩
theorem dd2 {K : PySem.W.Frag} {H : Hp} {vs : List V} {d e : PyData} (h : DdAll K H vs [d, e]) : ∃ v w, vs = [v, w] ∧ Dd K H v d ∧ Dd K H w e := by
  cases h with
  | cons a b =>
    obtain ⟨w, rfl, hw⟩ := dd1 b
    exact ⟨_, _, rfl, a, hw⟩
/-! ### copies -/
def isLD : PyData → Bool
  | .list _ => true
  | _ => false
def isTD : PyData → Bool
  | .tuple _ => true
  | _ => false
def isDD : PyData → Bool
  | .dict _ => true
  | _ => false
theorem kit_list (d : PyData) : kitB (tyD d) "list" = some (isLD d) := by cases d <;> (simp only [tyD, isLD]; decide +kernel)
theorem kit_tupl (d : PyData) : kitB (tyD d) "tuple" = some (isTD d) := by cases d <;> (simp only [tyD, isTD]; decide +kernel)
theorem kit_dict (d : PyData) : kitB (tyD d) "dict" = some (isDD d) := by cases d <;> (simp only [tyD, isDD]; decide +kernel)
def PCp (n : Nat) (ds : List PyData) (e : PyData) : Prop := ∃ (d : PyData) (j : Int), ds = [d, .int j] ∧ cpB n d = true ∧ 0 ≤ j ∧ j ≤ 100 ∧ e = d
def spPrevC (K : PySem.W.Frag) : Nat → Sp
  | 0 => fun _ _ _ _ => False
  | n + 1 => spX K 2 (PCp n)
theorem e1_cp {K : PySem.W.Frag} {U : Wo} {M : Hp} {σ : L2.St} {t : TA} {n : Nat} {d : PyData} {j : Int} (h : A1 K U M t σ [d, .int j]) (c : ∃ m, n = m + 1 ∧ cpB m d = true) (j0 : 0 ≤ j) (j1 : j ≤ 100) : E1 K U M (tGo (spPrevC K n) t) σ d := by
  obtain ⟨m, rfl, c⟩ := c
  exact e1_gox h rfl ⟨d, j, rfl, c, j0, j1, rfl⟩
theorem cp_list {n : Nat} {ds : List PyData} (h : cpB n (.list ds) = true) : ds.length ≤ 100 ∧ ∀ d ∈ ds, ∃ m, n = m + 1 ∧ cpB m d = true := by
  cases n with
  | zero => cases h
  | succ m =>
    simp only [cpB, Bool.and_eq_true, decide_eq_true_eq, List.all_eq_true] at h
    exact ⟨h.1, fun d hd => ⟨m, rfl, h.2 d hd⟩⟩
theorem cp_tup {n : Nat} {ds : List PyData} (h : cpB n (.tuple ds) = true) : ds.length ≤ 100 ∧ ∀ d ∈ ds, ∃ m, n = m + 1 ∧ cpB m d = true := by
  cases n with
  | zero => cases h
  | succ m =>
    simp only [cpB, Bool.and_eq_true, decide_eq_true_eq, List.all_eq_true] at h
    exact ⟨h.1, fun d hd => ⟨m, rfl, h.2 d hd⟩⟩
theorem cp_dict {n : Nat} {ps : List (PyData × PyData)} (h : cpB n (.dict ps) = true) : (∃ m, n = m + 1) ∧ (ps = [] ∨ ∃ x i, ps = [(.str x, .int i)]) := by
  cases n with
  | zero => cases h
  | succ m =>
    refine ⟨⟨m, rfl⟩, ?_⟩
    unfold cpB at h
    split at h <;> first | exact .inl (by assumption) | skip
    all_goals simp_all
section
variable {P : Program} {w : World} {K : PySem.W.Frag} {mg : Str → Option Value} {base : Heap}
theorem ok_copied {f : Addr} {oc dV kV doc pm cdv ct : Value} {an od : Option Addr} {osl : Array (Option Value)} (n : Nat)
    (look : K.lookup f = some ⟨oc, od, .func (PySem.W.fnOf "copied" "copied" (defArgs s_copied) (defBody s_copied) (defScope s_copied) dV kV doc pm an cdv ct), osl⟩) (code : PySem.W.codeIn K cdv "copied" = true) (T : Blt mg) (Td : mg "dict" = none)
    (G : Def P w K mg base "copied" n ["thing", "levels"] (spPrevC K n)) : FnG P w K mg base (n + 1) f (PySem.W.fnOf "copied" "copied" (defArgs s_copied) (defBody s_copied) (defScope s_copied) dV kV doc pm an cdv ct) ["thing", "levels"] (spX K 2 (PCp n)) := by
  refine fnGc look code sc_copied (fun vs H Q E h => spX_len h) (fun A outer s H vs Q E hr h => ?_)
  obtain ⟨U, m, es, d, ok, hd, hl, ⟨_, j, rfl, c, j0, j1, rfl⟩, q⟩ := h
  obtain ⟨v, u, rfl, hv, hu0⟩ := dd2 hd
  cases hu0
  have hu := hu_of hr.r
  have a : At U m (U.view H) H := At.here ok
  refine ⟨_, pss_cons (ps_if (pt_cmpR op_lt (pv 1) pe_int (nomark _))
        (pss_one (ps_ret (pv 0)))
        pss_nil)
        (pss_cons (ps_if (pt_val (pe_callB call_isi (by rfl) T.isinstance (by decide +kernel) (pa_cons (pv 0) (pa_cons (pe_bltn (v := .ty "list") (by rfl) T.list (by decide +kernel) rfl) pa_nil))))
        (pss_one (ps_ret (pe_lc (own := [("item", 2)]) (g := gName 2) (tt := tYes) (te := tGo (spPrevC K n) (tCons (tVar 2) (tCons (tOp (rI0 fun i j => .int (i - j)) (tVar 1) (tC (.int 1))) tNil))) rfl sc_copied.nd (pi_list (pv 0)) (blkOk_by (N := ["thing", "levels", "item", "key"]) (sc := defScope s_copied) (by decide +kernel)) (fun _ _ _ _ _ => (pg_name (i := 2) sc_copied.nd rfl (.inl rfl))) (fun _ _ _ _ _ => pts_nil) (fun _ _ _ _ _ => (pe_go G hr (pa_cons (pv 2) (pa_cons (pe_op op_sub (pv 1) pe_int) pa_nil)) (Nat.le_refl _))))))
        pss_nil)
        (pss_cons (ps_if (pt_val (pe_callB call_isi (by rfl) T.isinstance (by decide +kernel) (pa_cons (pv 0) (pa_cons (pe_bltn (v := .ty "tuple") (by rfl) T.tuple (by decide +kernel) rfl) pa_nil))))
        (pss_one (ps_ret (pe_callTy call_tuple_of (by rfl) T.tuple (by decide +kernel) (pa_cons (pe_lc (own := [("item", 2)]) (g := gName 2) (tt := tYes) (te := tGo (spPrevC K n) (tCons (tVar 2) (tCons (tOp (rI0 fun i j => .int (i - j)) (tVar 1) (tC (.int 1))) tNil))) rfl sc_copied.nd (pi_tup (pv 0)) (blkOk_by (N := ["thing", "levels", "item", "key"]) (sc := defScope s_copied) (by decide +kernel)) (fun _ _ _ _ _ => (pg_name (i := 2) sc_copied.nd rfl (.inl rfl))) (fun _ _ _ _ _ => pts_nil) (fun _ _ _ _ _ => (pe_go G hr (pa_cons (pv 2) (pa_cons (pe_op op_sub (pv 1) pe_int) pa_nil)) (Nat.le_refl _)))) pa_nil))))
        pss_nil)
        (pss_cons (ps_if (pt_val (pe_callB call_isi (by rfl) T.isinstance (by decide +kernel) (pa_cons (pv 0) (pa_cons (pe_bltn (v := .ty "dict") (by rfl) Td (by decide +kernel) rfl) pa_nil))))
        (pss_one (ps_ret (pe_lock (pe_dc (own := [("key", 3)]) (g := gName 3) (tt := tYes) (tk := tVar 3) (tv := tGo (spPrevC K n) (tCons (tDGet (tVar 0) (tVar 3)) (tCons (tOp (rI0 fun i j => .int (i - j)) (tVar 1) (tC (.int 1))) tNil))) rfl sc_copied.nd (pi_keys (pv 0)) (blkOk_by (N := ["thing", "levels", "item", "key"]) (sc := defScope s_copied) (by decide +kernel)) (fun _ _ _ _ _ => (pg_name (i := 3) sc_copied.nd rfl (.inl rfl))) (fun _ _ _ _ _ => pts_nil) (fun _ _ _ _ _ => (pv 3))
          (fun _ _ _ _ _ => (pe_go G hr (pa_cons (pe_dget hu (pv 0) (pv 3) (fun _ _ => rfl)) (pa_cons (pe_op op_sub (pv 1) pe_int) pa_nil)) (Nat.le_refl _)))))))
        pss_nil)
        (pss_one (ps_ret (pv 0)))))), ?_⟩
  refine s1_if (b := decide (j < 1)) a (t1_test (K := K) (E1.is (e1_op (e1_var rfl (Dd.int j)) e1_int r1_cmp) rfl)) (fun z H1 a1 s1 => ?_) (fun z H1 a1 s1 => ?_)
  · exact s1_ret (K := K) a1 (e1_var rfl hv) fun y H2 a2 s2 d2 => q y H2 a2.ok (s1.trans s2) d2
  have j2 := of_decide_eq_false z
  have hv1 := hv.same s1
  have less : ∀ {U' : Wo} {M' : Hp} {σ' : L2.St}, σ'[1]? = some (some (.int j)) → E1 K U' M' (tOp (rI0 fun i j => .int (i - j)) (tVar 1) (tC (.int 1))) σ' (.int (j - 1)) := fun h => e1_op (e1_var h (Dd.int j)) e1_int r1_int
  have back : (∀ y H2, At U m (U.view H) H2 → Same (U.view H1) (U.view H2) → Dd K (U.view H2) y d → Q y H2) := fun y H2 a2 s2 d2 => q y H2 a2.ok (s1.trans s2) d2
  refine rd_next ?_
  dsimp only
  refine rd_seq ?_
  refine s1_if (b := isLD d) (At.here a1.ok) (t1_val (e1_isi (e1_var rfl hv1) (kit_list d))) (fun y1 H2 a2 s2 => ?_) (fun y1 H2 a2 s2 => ?_)
  · obtain ⟨ds, rfl⟩ : ∃ ds, d = .list ds := by cases d <;> first | exact ⟨_, rfl⟩ | cases y1
    obtain ⟨c1, c2⟩ := cp_list c
    refine s1_ret (K := K) (d := .list ds) a2 (E1.is (e1_lc (p := fun _ => true) (f := fun d => d) (i1_list (e1_var rfl hv1)) (by omega) (fun _ => rfl) (fun U' M' v d e hm hd => t1_yes) (fun U' M' x d e hm _ hd => e1_cp (a1_cons (e1_var rfl hd) (a1_cons (less rfl) a1_nil)) (c2 d hm) (by omega) (by omega))) (by rw [List.filter_eq_self.mpr (fun _ _ => rfl), List.map_id'])) fun y H3 a3 s3 d3 => back y H3 ⟨a3.ok, (s1.trans s2).trans s3⟩ (s2.trans s3) d3
  refine rd_next ?_
  dsimp only
  refine rd_seq ?_
  have hv2 := hv1.same s2
  refine s1_if (b := isTD d) (At.here a2.ok) (t1_val (e1_isi (e1_var rfl hv2) (kit_tupl d))) (fun y2 H3 a3 s3 => ?_) (fun y2 H3 a3 s3 => ?_)
  · obtain ⟨ds, rfl⟩ : ∃ ds, d = .tuple ds := by cases d <;> first | exact ⟨_, rfl⟩ | cases y2
    obtain ⟨c1, c2⟩ := cp_tup c
    refine s1_ret (K := K) (d := .tuple ds) a3 (e1_tuple (E1.is (e1_lc (p := fun _ => true) (f := fun d => d) (i1_tup (e1_var rfl hv2)) (by omega) (fun _ => rfl) (fun U' M' v d e hm hd => t1_yes) (fun U' M' x d e hm _ hd => e1_cp (a1_cons (e1_var rfl hd) (a1_cons (less rfl) a1_nil)) (c2 d hm) (by omega) (by omega))) (by rw [List.filter_eq_self.mpr (fun _ _ => rfl), List.map_id'])) (.inl rfl)) fun y H4 a4 s4 d4 => back y H4 ⟨a4.ok, ((s1.trans s2).trans s3).trans s4⟩ ((s2.trans s3).trans s4) d4
  refine rd_next ?_
  dsimp only
  refine rd_seq ?_
  have hv3 := hv2.same s3
  refine s1_if (b := isDD d) (At.here a3.ok) (t1_val (e1_isi (e1_var rfl hv3) (kit_dict d))) (fun y3 H4 a4 s4 => ?_) (fun y3 H4 a4 s4 => ?_)
  · obtain ⟨ps, rfl⟩ : ∃ ps, d = .dict ps := by cases d <;> first | exact ⟨_, rfl⟩ | cases y3
    obtain ⟨⟨n', rfl⟩, kind⟩ := cp_dict c
    have hv4 := hv3.same s4
    cases hv4 with
    | dic hq hk hvv =>
      rename_i D kvs
      obtain ⟨xs, i, nd, rfl, lx, ek⟩ : ∃ (xs : List Str) (i : Int), xs.Nodup ∧ ps = xs.map (fun x => ((.str x : PyData), (.int i : PyData))) ∧ xs.length ≤ 1 ∧ kvs = xs.map fun x => ((Sum.inr x : Key), V.int i) := by
        rcases kind with rfl | ⟨x, i, rfl⟩
        · refine ⟨[], 0, .nil, rfl, by decide, ?_⟩
          cases kvs with
          | nil => rfl
          | cons p r => cases hk
        · refine ⟨[x], i, List.nodup_cons.mpr ⟨by simp, .nil⟩, rfl, Nat.le_refl 1, ?_⟩
          cases kvs with
          | nil => cases hk
          | cons p r =>
            obtain ⟨k, y⟩ := p
            cases hk with
            | cons k1 k2 =>
              cases hvv with
              | cons v1 v2 =>
                cases r with
                | cons _ _ => cases k2
                | nil =>
                  cases v1
                  cases k with
                  | inl z => cases k1
                  | inr z =>
                    cases k1
                    rfl
      subst ek
      have keys : (xs.map fun x => ((Sum.inr x : Key), V.int i)).map (fun p => keyD p.1) = strsD xs := by
        rw [List.map_map]
        rfl
      refine s1_ret (K := K) (d := .dict (xs.map fun x => ((.str x : PyData), (.int i : PyData)))) (At.here a4.ok) (e1_lock hq fun od M2 hD2 sM => e1_dc (f := fun _ => .int i) (keys ▸ i1_keys rfl hD2) nd (by omega) (fun _ => rfl) (fun _ => rfl) (fun U' M' x e hm => e1_cp (a1_cons (e1_fget (u := .int i) (x := x) rfl rfl (.str x) (e _ _ hD2) ?gv (.int i)) (a1_cons (less rfl) a1_nil)) ⟨n', rfl, by cases n' <;> rfl⟩ (by omega) (by omega))) fun y H5 a5 s5 d5 => back y H5 ⟨a5.ok, (((s1.trans s2).trans s3).trans s4).trans s5⟩ (((s2.trans s3).trans s4).trans s5) d5
      case gv =>
        obtain ⟨x0, rfl⟩ : ∃ x0, xs = [x0] := by
          cases xs with
          | nil => cases hm
          | cons x0 r =>
            cases r with
            | nil => exact ⟨x0, rfl⟩
            | cons _ _ =>
              simp at lx
        rw [List.mem_singleton] at hm
        subst hm
        exact valV_pos rfl
  refine rd_next ?_
  dsimp only
  exact s1_ret (K := K) a4 (e1_var rfl hv3) fun y H5 a5 s5 d5 => back y H5 ⟨a5.ok, (((s1.trans s2).trans s3).trans s4).trans s5⟩ (((s2.trans s3).trans s4).trans s5) d5
end
end Mw
namespace Mw
open PySem PySem.Spec PyProof.Rows L2
/-! ### what an error's __init__ does -/
section
variable {K : PySem.W.Frag} {V1 V2 : Hp} {a C : Addr} {dx : Option Addr}
mutual
/-- data does not lie in an error -/
theorem Dd.skip (ha : V1 a = some (exo a C dx)) (k : ∀ b u, b ≠ a → V1 b = some u → V2 b = some u) : ∀ {v : V} {d : PyData}, Dd K V1 v d → Dd K V2 v d
  | _, _, .non => .non
  | _, _, .bl b => .bl b
  | _, _, .int i => .int i
  | _, _, .str x => .str x
  | _, _, .lst h r => .lst (k _ _ (fun z => by
      rw [z, ha] at h
      have y := Option.some.inj h
      unfold exo at y
      cases y) h) (DdAll.skip ha k r)
  | _, _, .tup h r => .tup (by
      rcases h with (h | ⟨o, h⟩) | h
      · exact .inl (.inl (k _ _ (fun z => by
          rw [z, ha] at h
          exact exo_tup (Option.some.inj h)) h))
      · exact .inl (.inr ⟨o, k _ _ (fun z => by
          rw [z, ha] at h
          exact exo_frz (Option.some.inj h)) h⟩)
      · exact .inr h) (DdAll.skip ha k r)
  | _, _, .dic h r s => .dic (k _ _ (fun z => by
      rw [z, ha] at h
      have y := Option.some.inj h
      unfold exo at y
      cases y) h) (DdAll.skip ha k r) (DdAll.skip ha k s)
theorem DdAll.skip (ha : V1 a = some (exo a C dx)) (k : ∀ b u, b ≠ a → V1 b = some u → V2 b = some u) : ∀ {vs : List V} {ds : List PyData}, DdAll K V1 vs ds → DdAll K V2 vs ds
  | _, _, .nil => .nil
  | _, _, .cons h r => .cons (Dd.skip ha k h) (DdAll.skip ha k r)
end
end
section
variable {K : PySem.W.Frag} {U : Wo} {M : Hp} {σ : L2.St} {n : Nat} {te : TE} {D : Ends} {H : Hp} {a C : Addr} {f : Str} {d : PyData}
/-- all but the thing at a -/
def But (a : Addr) (V1 V2 : Hp) : Prop := ∀ b u, b ≠ a → V1 b = some u → V2 b = some u
/-- self.f = e, the first one -/
theorem s_ost1 (at_ : At U n M H) (h : E1 K U M te σ d) (ha : σ[0]? = some (some (.ref a))) (hU : U.view H a = some (exo a C none)) (T : OexC K C) (hno : PySem.W.findIn K (.ref C) f = some none)
    (q : ∀ y dx H', U.ok n H' → But a (U.view H) (U.view H') → U.view H' a = some (exo a C (some dx)) → U.view H' dx = some (exd dx [(f, y)]) → dx ≠ a → U.view H dx = none → Dd K (U.view H') y d → D.nx σ H') : tOst K f (tVar 0) te D σ H :=
  h n H at_ _ fun y H1 ok1 s1 d1 => ⟨.ref a, ha, a, C, rfl, T, hno, .inl ⟨U.le _ _ _ (s1 _ _ hU), fun dx ndx ne => by
    have a1 := s1 _ _ hU
    obtain ⟨ok2, s2, f2, n2⟩ := U.new (o := exd dx [(f, y)]) ok1 ndx rfl
    obtain ⟨ok3, f3, o3⟩ := U.own (o := exo a C (some dx)) ok2 (s2 _ _ a1) rfl
    have b3 : But a (U.view H1) (U.view (upd (upd H1 dx (exd dx [(f, y)])) a (exo a C (some dx)))) := fun b u nb e => o3 b u nb (s2 _ _ e)
    refine q y dx _ ok3 (fun b u nb e => b3 b u nb (s1 _ _ e)) f3 (o3 dx _ ne f2) ne ?_ (d1.skip a1 b3)
    cases z : U.view H dx with
    | none => rfl
    | some o =>
      have := s1 _ _ z
      rw [n2] at this
      cases this⟩⟩
mutual
/-- nor in an error's dict -/
theorem Dd.skipD {V1 V2 : Hp} {dx : Addr} {fs : List (Str × V)} (ha : V1 dx = some (exd dx fs)) (k : But dx V1 V2) : ∀ {v : V} {d : PyData}, Dd K V1 v d → Dd K V2 v d
  | _, _, .non => .non
  | _, _, .bl b => .bl b
  | _, _, .int i => .int i
  | _, _, .str x => .str x
  | _, _, .lst h r => .lst (k _ _ (fun z => by
      rw [z, ha] at h
      have y := Option.some.inj h
      unfold exd at y
      cases y) h) (DdAll.skipD ha k r)
  | _, _, .tup h r => .tup (by
      rcases h with (h | ⟨o, h⟩) | h
      · exact .inl (.inl (k _ _ (fun z => by
          rw [z, ha] at h
          exact exd_tup (Option.some.inj h)) h))
      · exact .inl (.inr ⟨o, k _ _ (fun z => by
          rw [z, ha] at h
          have y := Option.some.inj h
          unfold exd at y
          cases y) h⟩)
      · exact .inr h) (DdAll.skipD ha k r)
  | _, _, .dic h r s => .dic (k _ _ (fun z => by
      rw [z, ha] at h
      have y := Option.some.inj h
      unfold exd at y
      cases y) h) (DdAll.skipD ha k r) (DdAll.skipD ha k s)
theorem DdAll.skipD {V1 V2 : Hp} {dx : Addr} {fs : List (Str × V)} (ha : V1 dx = some (exd dx fs)) (k : But dx V1 V2) : ∀ {vs : List V} {ds : List PyData}, DdAll K V1 vs ds → DdAll K V2 vs ds
  | _, _, .nil => .nil
  | _, _, .cons h r => .cons (Dd.skipD ha k h) (DdAll.skipD ha k r)
end
/-- self.f = e, a further one -/
theorem s_ost2 {dx : Addr} {fs : List (Str × V)} (at_ : At U n M H) (h : E1 K U M te σ d) (ha : σ[0]? = some (some (.ref a))) (hU : U.view H a = some (exo a C (some dx))) (hd : U.view H dx = some (exd dx fs)) (few : fs.length ≤ 900) (T : OexC K C) (hno : PySem.W.findIn K (.ref C) f = some none)
    (q : ∀ y H', U.ok n H' → But dx (U.view H) (U.view H') → U.view H' dx = some (exd dx ((f, y) :: fs)) → Dd K (U.view H') y d → D.nx σ H') : tOst K f (tVar 0) te D σ H :=
  h n H at_ _ fun y H1 ok1 s1 d1 => ⟨.ref a, ha, a, C, rfl, T, hno, .inr ⟨dx, fs, U.le _ _ _ (s1 _ _ hU), U.le _ _ _ (s1 _ _ hd), few, by
    obtain ⟨ok2, f2, o2⟩ := U.own (o := exd dx ((f, y) :: fs)) ok1 (s1 _ _ hd) rfl
    exact q y _ ok2 (fun b u nb e => o2 b u nb (s1 _ _ e)) f2 (d1.skipD (s1 _ _ hd) o2)⟩⟩
theorem e1_goxD {m : Nat} {P : List PyData → PyData → Prop} {t : TA} {ds es : List PyData} {dvs : List V} {e : PyData} (h : A1 K U M t σ ds) (hd : ∀ H, DdAll K H dvs es) (hm : (ds ++ es).length = m) (hp : P (ds ++ es) e) : E1 K U M (tGoD (spX K m P) dvs t) σ e := fun n H a Q q =>
  h n H a _ fun vs H1 ok1 s1 d1 => ⟨U, n, ds ++ es, e, ok1, d1.app (hd _), hm, hp, fun v H2 ok2 s2 d2 => q v H2 ok2 (s1.trans s2) d2⟩
/-- copied(x) -/
theorem e1_copied {t : TA} (h : A1 K U M t σ [d]) (c : cpB 3 d = true) : E1 K U M (tGoD (spX K 2 (PCp 3)) [.int 20] t) σ d :=
  e1_goxD (es := [.int 20]) h (fun _ => .cons (.int _) .nil) rfl ⟨d, 20, rfl, c, by decide, by decide, rfl⟩
/-! the texts of f-strings -/
theorem js_str {ts : List TE} {acc m : Str} {Q : Str → Hp → Prop} (h : (acc ++ m).length ≤ sizeLine) (k : tJs ts (acc ++ m) σ H Q) : tJs (tC (.str m) :: ts) acc σ H Q := ⟨m, rfl, h, k⟩
theorem js_fmt {ts : List TE} {acc : Str} {i : Nat} {v : V} {Q : Str → Hp → Prop} (hi : σ[i]? = some (some v)) (hd : Dd K H v d) (ok : FmtOk d) (h : (acc ++ fmtT d).length ≤ sizeLine) (k : tJs ts (acc ++ fmtT d) σ H Q) : tJs (tFmtD K (tVar i) :: ts) acc σ H Q := ⟨v, hi, d, hd, ok, fmtT d, rfl, h, k⟩
theorem str_len (x y : Str) : (x ++ y).length = x.length + y.length := by
  show (x.cps ++ y.cps).size = _
  rw [Array.size_append]
  rfl
end
/-- an error made, so many fields given, kept under these names -/
def spIni (K : PySem.W.Frag) (C : Addr) (fs : List Str) : Sp := fun vs H Q _ => ∃ (U : Wo) (n : Nat) (a : Addr) (ws : List V) (ds : List PyData), vs = .ref a :: ws ∧ U.ok n H ∧ U.view H a = some (exo a C none) ∧ DdAll K (U.view H) ws ds ∧ ds.length = fs.length ∧ (∀ d ∈ ds, OddM d) ∧
  ∀ H' dx ys, U.ok n H' → But a (U.view H) (U.view H') → U.view H' a = some (exo a C (some dx)) → U.view H' dx = some (exd dx (fs.zip ys).reverse) → DdAll K (U.view H') ys ds → Q .non H'
theorem spIni_len {K : PySem.W.Frag} {C : Addr} {fs : List Str} {vs : List V} {H : Hp} {Q : VK} {E : XK} (h : spIni K C fs vs H Q E) : vs.length = fs.length + 1 := by
  obtain ⟨U, n, a, ws, ds, rfl, _, _, hd, l, _⟩ := h
  rw [List.length_cons, hd.len, l]
end Mw
namespace Mw
open PySem PySem.Spec PyProof.Rows L2
/-! ### the errors' own __init__ -/
theorem emp_len : Str.empty.length = 0 := rfl
def inS (i : Nat) : Stmt := match topS i with
  | .ClassDef _ _ _ body _ _ _ _ _ _ _ => body.getD 0 (.Pass ⟨0, 0, 0, 0⟩)
  | s => s
abbrev s_TooMany : Stmt := inS 7
theorem sc_TooMany : IniScope ["self", "what", "most"] ["self", "what", "most"] (defScope s_TooMany) := ⟨rfl, rfl, rfl, by decide +kernel, rfl, by decide +kernel, by decide +kernel, by decide +kernel, rfl, rfl⟩
abbrev s_BadProgram : Stmt := inS 8
theorem sc_BadProgram : IniScope ["self", "part"] ["self", "part"] (defScope s_BadProgram) := ⟨rfl, rfl, rfl, by decide +kernel, rfl, by decide +kernel, by decide +kernel, by decide +kernel, rfl, rfl⟩
abbrev s_BadTest : Stmt := inS 10
theorem sc_BadTest : IniScope ["self", "part"] ["self", "part"] (defScope s_BadTest) := ⟨rfl, rfl, rfl, by decide +kernel, rfl, by decide +kernel, by decide +kernel, by decide +kernel, rfl, rfl⟩
abbrev s_BadPacket : Stmt := inS 11
theorem sc_BadPacket : IniScope ["self", "packet"] ["self", "packet"] (defScope s_BadPacket) := ⟨rfl, rfl, rfl, by decide +kernel, rfl, by decide +kernel, by decide +kernel, by decide +kernel, rfl, rfl⟩
abbrev s_BadMost : Stmt := inS 12
theorem sc_BadMost : IniScope ["self", "most"] ["self", "most"] (defScope s_BadMost) := ⟨rfl, rfl, rfl, by decide +kernel, rfl, by decide +kernel, by decide +kernel, by decide +kernel, rfl, rfl⟩
abbrev s_NoPlace : Stmt := inS 13
theorem sc_NoPlace : IniScope ["self", "place"] ["self", "place"] (defScope s_NoPlace) := ⟨rfl, rfl, rfl, by decide +kernel, rfl, by decide +kernel, by decide +kernel, by decide +kernel, rfl, rfl⟩
abbrev s_BadWord : Stmt := inS 14
theorem sc_BadWord : IniScope ["self", "word"] ["self", "word"] (defScope s_BadWord) := ⟨rfl, rfl, rfl, by decide +kernel, rfl, by decide +kernel, by decide +kernel, by decide +kernel, rfl, rfl⟩
abbrev s_BadTests : Stmt := inS 15
theorem sc_BadTests : IniScope ["self", "at"] ["self", "at"] (defScope s_BadTests) := ⟨rfl, rfl, rfl, by decide +kernel, rfl, by decide +kernel, by decide +kernel, by decide +kernel, rfl, rfl⟩
abbrev s_NoPart : Stmt := inS 16
theorem sc_NoPart : IniScope ["self", "path"] ["self", "path"] (defScope s_NoPart) := ⟨rfl, rfl, rfl, by decide +kernel, rfl, by decide +kernel, by decide +kernel, by decide +kernel, rfl, rfl⟩
abbrev s_BadNet : Stmt := inS 18
theorem sc_BadNet : IniScope ["self", "part"] ["self", "part"] (defScope s_BadNet) := ⟨rfl, rfl, rfl, by decide +kernel, rfl, by decide +kernel, by decide +kernel, by decide +kernel, rfl, rfl⟩
abbrev s_BadRule : Stmt := inS 19
theorem sc_BadRule : IniScope ["self", "at"] ["self", "at"] (defScope s_BadRule) := ⟨rfl, rfl, rfl, by decide +kernel, rfl, by decide +kernel, by decide +kernel, by decide +kernel, rfl, rfl⟩
abbrev s_BadDeed : Stmt := inS 20
theorem sc_BadDeed : IniScope ["self", "deed"] ["self", "deed"] (defScope s_BadDeed) := ⟨rfl, rfl, rfl, by decide +kernel, rfl, by decide +kernel, by decide +kernel, by decide +kernel, rfl, rfl⟩
abbrev s_BadJournal : Stmt := inS 22
theorem sc_BadJournal : IniScope ["self", "at"] ["self", "at"] (defScope s_BadJournal) := ⟨rfl, rfl, rfl, by decide +kernel, rfl, by decide +kernel, by decide +kernel, by decide +kernel, rfl, rfl⟩
abbrev s_BadText : Stmt := inS 23
theorem sc_BadText : IniScope ["self", "line"] ["self", "line"] (defScope s_BadText) := ⟨rfl, rfl, rfl, by decide +kernel, rfl, by decide +kernel, by decide +kernel, by decide +kernel, rfl, rfl⟩
abbrev s_BadName : Stmt := inS 24
theorem sc_BadName : IniScope ["self", "name"] ["self", "name"] (defScope s_BadName) := ⟨rfl, rfl, rfl, by decide +kernel, rfl, by decide +kernel, by decide +kernel, by decide +kernel, rfl, rfl⟩
section
variable {P : Program} {w : World} {K : PySem.W.Frag} {mg : Str → Option Value} {base : Heap} {f C cda cc : Addr} {fd : FuncData}
theorem ini_TooMany (F : IniF K P "TooMany.__init__" s_TooMany f C cda cc fd) (T : OexC K C) (h0 : PySem.W.findIn K (.ref C) "what" = some none) (h1 : PySem.W.findIn K (.ref C) "most" = some none) (hs : ∃ m, base.Ns sysModules m) (D : DefD P w K mg base "copied" 4 ["thing", "levels"] [.int 20] (spX K 2 (PCp 3))) :
    FnR P w K mg base CX0 anyR 5 f fd ["self", "what", "most"] (spIni K C ["what", "most"]) := by
  refine fn_ini (cx := CX0) (R := anyR) F T sc_TooMany rfl rfl rfl (fun L f cd cc => ⟨rfl, rfl, rfl, _, rfl⟩) (fun vs H Q E h => spIni_len h) (fun A out s H vs Q E hr _ h => ?_)
  obtain ⟨U, n, a, ws, ds, rfl, ok, hU, hd, hl, nice, q⟩ := h
  obtain ⟨d0, d1, rfl⟩ : ∃ d0 d1, ds = [d0, d1] := by
    match ds, hl with
    | [x, y], _ => exact ⟨x, y, rfl⟩
  obtain ⟨v0, v1, rfl, hv0, hv1⟩ := dd2 hd
  have o0 := nice d0 (by simp)
  have m0 := fmt_fits o0.1
  have o1 := nice d1 (by simp)
  have m1 := fmt_fits o1.1
  refine ⟨a, _, _, rfl, U.le _ _ _ hU, (pe_joined (.cons pe_str (.cons (pe_fmtD hr hs (pv 2)) (.cons pe_str (.cons (pe_fmtD hr hs (pv 1)) .nil))))), pss_cons (ps_ost (pv 0) (pe_goD D hr (pa_cons (pv 1) pa_nil))) (pss_one (ps_ost (pv 0) (pe_goD D hr (pa_cons (pv 2) pa_nil)))), ?_⟩
  have size := sizeLine_eq
  have fit1 := m1.2
  have fit0 := m0.2
  have len0 : ("more than " : Str).length ≤ 100 := by decide +kernel
  refine js_str (by simp only [str_len, emp_len]; omega) ?_
  refine js_fmt rfl (hv1.same (U.le _)) m1.1 (by simp only [str_len, emp_len]; have := m1.2; omega) ?_
  have len2 : (" " : Str).length ≤ 100 := by decide +kernel
  refine js_str (by simp only [str_len, emp_len]; omega) ?_
  refine js_fmt rfl (hv0.same (U.le _)) m0.1 (by simp only [str_len, emp_len]; have := m0.2; omega) ?_
  refine ⟨U.le _ _ _ hU, ?_⟩
  refine rd_seq ?_
  refine s_ost1 (At.here ok) (e1_copied (a1_cons (e1_var rfl hv0) a1_nil) o0.2) rfl hU T h0 fun y dx H1 ok1 b e1 e2 ne nd dy => ?_
  exact s_ost2 (At.here ok1) (e1_copied (a1_cons (e1_var rfl (hv1.skip hU b)) a1_nil) o1.2) rfl e1 e2 (by show 1 ≤ 900; decide) T h1 fun z H2 ok2 b2 f2 dz => q H2 dx [y, z] ok2 (fun c u nc e => b2 c u (fun x => by
      rw [x, nd] at e
      cases e) (b c u nc e)) (b2 a _ (Ne.symm ne) e1) f2 (.cons (dy.skipD e2 b2) (.cons dz .nil))
theorem ini_BadProgram (F : IniF K P "BadProgram.__init__" s_BadProgram f C cda cc fd) (T : OexC K C) (h0 : PySem.W.findIn K (.ref C) "part" = some none) (hs : ∃ m, base.Ns sysModules m) (D : DefD P w K mg base "copied" 4 ["thing", "levels"] [.int 20] (spX K 2 (PCp 3))) :
    FnR P w K mg base CX0 anyR 5 f fd ["self", "part"] (spIni K C ["part"]) := by
  refine fn_ini (cx := CX0) (R := anyR) F T sc_BadProgram rfl rfl rfl (fun L f cd cc => ⟨rfl, rfl, rfl, _, rfl⟩) (fun vs H Q E h => spIni_len h) (fun A out s H vs Q E hr _ h => ?_)
  obtain ⟨U, n, a, ws, ds, rfl, ok, hU, hd, hl, nice, q⟩ := h
  obtain ⟨d0, rfl⟩ := List.length_eq_one_iff.mp hl
  obtain ⟨v0, rfl, hv0⟩ := dd1 hd
  have o0 := nice d0 (by simp)
  have m0 := fmt_fits o0.1
  refine ⟨a, _, _, rfl, U.le _ _ _ hU, (pe_joined (.cons pe_str (.cons (pe_fmtD hr hs (pv 1)) .nil))), pss_one (ps_ost (pv 0) (pe_goD D hr (pa_cons (pv 1) pa_nil))), ?_⟩
  have size := sizeLine_eq
  have fit0 := m0.2
  have len0 : ("no Program: " : Str).length ≤ 100 := by decide +kernel
  refine js_str (by simp only [str_len, emp_len]; omega) ?_
  refine js_fmt rfl (hv0.same (U.le _)) m0.1 (by simp only [str_len, emp_len]; have := m0.2; omega) ?_
  refine ⟨U.le _ _ _ hU, ?_⟩
  exact s_ost1 (At.here ok) (e1_copied (a1_cons (e1_var rfl hv0) a1_nil) o0.2) rfl hU T h0 fun y dx H1 ok1 b e1 e2 ne nd dy => q H1 dx [y] ok1 b e1 e2 (.cons dy .nil)
theorem ini_BadTest (F : IniF K P "BadTest.__init__" s_BadTest f C cda cc fd) (T : OexC K C) (h0 : PySem.W.findIn K (.ref C) "part" = some none) (hs : ∃ m, base.Ns sysModules m) (D : DefD P w K mg base "copied" 4 ["thing", "levels"] [.int 20] (spX K 2 (PCp 3))) :
    FnR P w K mg base CX0 anyR 5 f fd ["self", "part"] (spIni K C ["part"]) := by
  refine fn_ini (cx := CX0) (R := anyR) F T sc_BadTest rfl rfl rfl (fun L f cd cc => ⟨rfl, rfl, rfl, _, rfl⟩) (fun vs H Q E h => spIni_len h) (fun A out s H vs Q E hr _ h => ?_)
  obtain ⟨U, n, a, ws, ds, rfl, ok, hU, hd, hl, nice, q⟩ := h
  obtain ⟨d0, rfl⟩ := List.length_eq_one_iff.mp hl
  obtain ⟨v0, rfl, hv0⟩ := dd1 hd
  have o0 := nice d0 (by simp)
  have m0 := fmt_fits o0.1
  refine ⟨a, _, _, rfl, U.le _ _ _ hU, (pe_joined (.cons pe_str (.cons (pe_fmtD hr hs (pv 1)) .nil))), pss_one (ps_ost (pv 0) (pe_goD D hr (pa_cons (pv 1) pa_nil))), ?_⟩
  have size := sizeLine_eq
  have fit0 := m0.2
  have len0 : ("no Program the tree of which is a test: " : Str).length ≤ 100 := by decide +kernel
  refine js_str (by simp only [str_len, emp_len]; omega) ?_
  refine js_fmt rfl (hv0.same (U.le _)) m0.1 (by simp only [str_len, emp_len]; have := m0.2; omega) ?_
  refine ⟨U.le _ _ _ hU, ?_⟩
  exact s_ost1 (At.here ok) (e1_copied (a1_cons (e1_var rfl hv0) a1_nil) o0.2) rfl hU T h0 fun y dx H1 ok1 b e1 e2 ne nd dy => q H1 dx [y] ok1 b e1 e2 (.cons dy .nil)
theorem ini_BadPacket (F : IniF K P "BadPacket.__init__" s_BadPacket f C cda cc fd) (T : OexC K C) (h0 : PySem.W.findIn K (.ref C) "packet" = some none) (hs : ∃ m, base.Ns sysModules m) (D : DefD P w K mg base "copied" 4 ["thing", "levels"] [.int 20] (spX K 2 (PCp 3))) :
    FnR P w K mg base CX0 anyR 5 f fd ["self", "packet"] (spIni K C ["packet"]) := by
  refine fn_ini (cx := CX0) (R := anyR) F T sc_BadPacket rfl rfl rfl (fun L f cd cc => ⟨rfl, rfl, rfl, _, rfl⟩) (fun vs H Q E h => spIni_len h) (fun A out s H vs Q E hr _ h => ?_)
  obtain ⟨U, n, a, ws, ds, rfl, ok, hU, hd, hl, nice, q⟩ := h
  obtain ⟨d0, rfl⟩ := List.length_eq_one_iff.mp hl
  obtain ⟨v0, rfl, hv0⟩ := dd1 hd
  have o0 := nice d0 (by simp)
  have m0 := fmt_fits o0.1
  refine ⟨a, _, _, rfl, U.le _ _ _ hU, pe_str, pss_one (ps_ost (pv 0) (pe_goD D hr (pa_cons (pv 1) pa_nil))), ?_⟩
  refine ⟨U.le _ _ _ hU, ?_⟩
  exact s_ost1 (At.here ok) (e1_copied (a1_cons (e1_var rfl hv0) a1_nil) o0.2) rfl hU T h0 fun y dx H1 ok1 b e1 e2 ne nd dy => q H1 dx [y] ok1 b e1 e2 (.cons dy .nil)
theorem ini_BadMost (F : IniF K P "BadMost.__init__" s_BadMost f C cda cc fd) (T : OexC K C) (h0 : PySem.W.findIn K (.ref C) "most" = some none) (hs : ∃ m, base.Ns sysModules m) (D : DefD P w K mg base "copied" 4 ["thing", "levels"] [.int 20] (spX K 2 (PCp 3))) :
    FnR P w K mg base CX0 anyR 5 f fd ["self", "most"] (spIni K C ["most"]) := by
  refine fn_ini (cx := CX0) (R := anyR) F T sc_BadMost rfl rfl rfl (fun L f cd cc => ⟨rfl, rfl, rfl, _, rfl⟩) (fun vs H Q E h => spIni_len h) (fun A out s H vs Q E hr _ h => ?_)
  obtain ⟨U, n, a, ws, ds, rfl, ok, hU, hd, hl, nice, q⟩ := h
  obtain ⟨d0, rfl⟩ := List.length_eq_one_iff.mp hl
  obtain ⟨v0, rfl, hv0⟩ := dd1 hd
  have o0 := nice d0 (by simp)
  have m0 := fmt_fits o0.1
  refine ⟨a, _, _, rfl, U.le _ _ _ hU, pe_str, pss_one (ps_ost (pv 0) (pe_goD D hr (pa_cons (pv 1) pa_nil))), ?_⟩
  refine ⟨U.le _ _ _ hU, ?_⟩
  exact s_ost1 (At.here ok) (e1_copied (a1_cons (e1_var rfl hv0) a1_nil) o0.2) rfl hU T h0 fun y dx H1 ok1 b e1 e2 ne nd dy => q H1 dx [y] ok1 b e1 e2 (.cons dy .nil)
theorem ini_NoPlace (F : IniF K P "NoPlace.__init__" s_NoPlace f C cda cc fd) (T : OexC K C) (h0 : PySem.W.findIn K (.ref C) "place" = some none) (hs : ∃ m, base.Ns sysModules m) (D : DefD P w K mg base "copied" 4 ["thing", "levels"] [.int 20] (spX K 2 (PCp 3))) :
    FnR P w K mg base CX0 anyR 5 f fd ["self", "place"] (spIni K C ["place"]) := by
  refine fn_ini (cx := CX0) (R := anyR) F T sc_NoPlace rfl rfl rfl (fun L f cd cc => ⟨rfl, rfl, rfl, _, rfl⟩) (fun vs H Q E h => spIni_len h) (fun A out s H vs Q E hr _ h => ?_)
  obtain ⟨U, n, a, ws, ds, rfl, ok, hU, hd, hl, nice, q⟩ := h
  obtain ⟨d0, rfl⟩ := List.length_eq_one_iff.mp hl
  obtain ⟨v0, rfl, hv0⟩ := dd1 hd
  have o0 := nice d0 (by simp)
  have m0 := fmt_fits o0.1
  refine ⟨a, _, _, rfl, U.le _ _ _ hU, pe_str, pss_one (ps_ost (pv 0) (pe_goD D hr (pa_cons (pv 1) pa_nil))), ?_⟩
  refine ⟨U.le _ _ _ hU, ?_⟩
  exact s_ost1 (At.here ok) (e1_copied (a1_cons (e1_var rfl hv0) a1_nil) o0.2) rfl hU T h0 fun y dx H1 ok1 b e1 e2 ne nd dy => q H1 dx [y] ok1 b e1 e2 (.cons dy .nil)
theorem ini_BadWord (F : IniF K P "BadWord.__init__" s_BadWord f C cda cc fd) (T : OexC K C) (h0 : PySem.W.findIn K (.ref C) "word" = some none) (hs : ∃ m, base.Ns sysModules m) (D : DefD P w K mg base "copied" 4 ["thing", "levels"] [.int 20] (spX K 2 (PCp 3))) :
    FnR P w K mg base CX0 anyR 5 f fd ["self", "word"] (spIni K C ["word"]) := by
  refine fn_ini (cx := CX0) (R := anyR) F T sc_BadWord rfl rfl rfl (fun L f cd cc => ⟨rfl, rfl, rfl, _, rfl⟩) (fun vs H Q E h => spIni_len h) (fun A out s H vs Q E hr _ h => ?_)
  obtain ⟨U, n, a, ws, ds, rfl, ok, hU, hd, hl, nice, q⟩ := h
  obtain ⟨d0, rfl⟩ := List.length_eq_one_iff.mp hl
  obtain ⟨v0, rfl, hv0⟩ := dd1 hd
  have o0 := nice d0 (by simp)
  have m0 := fmt_fits o0.1
  refine ⟨a, _, _, rfl, U.le _ _ _ hU, pe_str, pss_one (ps_ost (pv 0) (pe_goD D hr (pa_cons (pv 1) pa_nil))), ?_⟩
  refine ⟨U.le _ _ _ hU, ?_⟩
  exact s_ost1 (At.here ok) (e1_copied (a1_cons (e1_var rfl hv0) a1_nil) o0.2) rfl hU T h0 fun y dx H1 ok1 b e1 e2 ne nd dy => q H1 dx [y] ok1 b e1 e2 (.cons dy .nil)
theorem ini_BadTests (F : IniF K P "BadTests.__init__" s_BadTests f C cda cc fd) (T : OexC K C) (h0 : PySem.W.findIn K (.ref C) "at" = some none) (hs : ∃ m, base.Ns sysModules m) (D : DefD P w K mg base "copied" 4 ["thing", "levels"] [.int 20] (spX K 2 (PCp 3))) :
    FnR P w K mg base CX0 anyR 5 f fd ["self", "at"] (spIni K C ["at"]) := by
  refine fn_ini (cx := CX0) (R := anyR) F T sc_BadTests rfl rfl rfl (fun L f cd cc => ⟨rfl, rfl, rfl, _, rfl⟩) (fun vs H Q E h => spIni_len h) (fun A out s H vs Q E hr _ h => ?_)
  obtain ⟨U, n, a, ws, ds, rfl, ok, hU, hd, hl, nice, q⟩ := h
  obtain ⟨d0, rfl⟩ := List.length_eq_one_iff.mp hl
  obtain ⟨v0, rfl, hv0⟩ := dd1 hd
  have o0 := nice d0 (by simp)
  have m0 := fmt_fits o0.1
  refine ⟨a, _, _, rfl, U.le _ _ _ hU, (pe_joined (.cons pe_str (.cons (pe_fmtD hr hs (pv 1)) .nil))), pss_one (ps_ost (pv 0) (pe_goD D hr (pa_cons (pv 1) pa_nil))), ?_⟩
  have size := sizeLine_eq
  have fit0 := m0.2
  have len0 : ("no list of tests, at: " : Str).length ≤ 100 := by decide +kernel
  refine js_str (by simp only [str_len, emp_len]; omega) ?_
  refine js_fmt rfl (hv0.same (U.le _)) m0.1 (by simp only [str_len, emp_len]; have := m0.2; omega) ?_
  refine ⟨U.le _ _ _ hU, ?_⟩
  exact s_ost1 (At.here ok) (e1_copied (a1_cons (e1_var rfl hv0) a1_nil) o0.2) rfl hU T h0 fun y dx H1 ok1 b e1 e2 ne nd dy => q H1 dx [y] ok1 b e1 e2 (.cons dy .nil)
theorem ini_NoPart (F : IniF K P "NoPart.__init__" s_NoPart f C cda cc fd) (T : OexC K C) (h0 : PySem.W.findIn K (.ref C) "path" = some none) (hs : ∃ m, base.Ns sysModules m) (D : DefD P w K mg base "copied" 4 ["thing", "levels"] [.int 20] (spX K 2 (PCp 3))) :
    FnR P w K mg base CX0 anyR 5 f fd ["self", "path"] (spIni K C ["path"]) := by
  refine fn_ini (cx := CX0) (R := anyR) F T sc_NoPart rfl rfl rfl (fun L f cd cc => ⟨rfl, rfl, rfl, _, rfl⟩) (fun vs H Q E h => spIni_len h) (fun A out s H vs Q E hr _ h => ?_)
  obtain ⟨U, n, a, ws, ds, rfl, ok, hU, hd, hl, nice, q⟩ := h
  obtain ⟨d0, rfl⟩ := List.length_eq_one_iff.mp hl
  obtain ⟨v0, rfl, hv0⟩ := dd1 hd
  have o0 := nice d0 (by simp)
  have m0 := fmt_fits o0.1
  refine ⟨a, _, _, rfl, U.le _ _ _ hU, pe_str, pss_one (ps_ost (pv 0) (pe_goD D hr (pa_cons (pv 1) pa_nil))), ?_⟩
  refine ⟨U.le _ _ _ hU, ?_⟩
  exact s_ost1 (At.here ok) (e1_copied (a1_cons (e1_var rfl hv0) a1_nil) o0.2) rfl hU T h0 fun y dx H1 ok1 b e1 e2 ne nd dy => q H1 dx [y] ok1 b e1 e2 (.cons dy .nil)
theorem ini_BadNet (F : IniF K P "BadNet.__init__" s_BadNet f C cda cc fd) (T : OexC K C) (h0 : PySem.W.findIn K (.ref C) "part" = some none) (hs : ∃ m, base.Ns sysModules m) (D : DefD P w K mg base "copied" 4 ["thing", "levels"] [.int 20] (spX K 2 (PCp 3))) :
    FnR P w K mg base CX0 anyR 5 f fd ["self", "part"] (spIni K C ["part"]) := by
  refine fn_ini (cx := CX0) (R := anyR) F T sc_BadNet rfl rfl rfl (fun L f cd cc => ⟨rfl, rfl, rfl, _, rfl⟩) (fun vs H Q E h => spIni_len h) (fun A out s H vs Q E hr _ h => ?_)
  obtain ⟨U, n, a, ws, ds, rfl, ok, hU, hd, hl, nice, q⟩ := h
  obtain ⟨d0, rfl⟩ := List.length_eq_one_iff.mp hl
  obtain ⟨v0, rfl, hv0⟩ := dd1 hd
  have o0 := nice d0 (by simp)
  have m0 := fmt_fits o0.1
  refine ⟨a, _, _, rfl, U.le _ _ _ hU, (pe_joined (.cons pe_str (.cons (pe_fmtD hr hs (pv 1)) .nil))), pss_one (ps_ost (pv 0) (pe_goD D hr (pa_cons (pv 1) pa_nil))), ?_⟩
  have size := sizeLine_eq
  have fit0 := m0.2
  have len0 : ("no net, by its: " : Str).length ≤ 100 := by decide +kernel
  refine js_str (by simp only [str_len, emp_len]; omega) ?_
  refine js_fmt rfl (hv0.same (U.le _)) m0.1 (by simp only [str_len, emp_len]; have := m0.2; omega) ?_
  refine ⟨U.le _ _ _ hU, ?_⟩
  exact s_ost1 (At.here ok) (e1_copied (a1_cons (e1_var rfl hv0) a1_nil) o0.2) rfl hU T h0 fun y dx H1 ok1 b e1 e2 ne nd dy => q H1 dx [y] ok1 b e1 e2 (.cons dy .nil)
theorem ini_BadRule (F : IniF K P "BadRule.__init__" s_BadRule f C cda cc fd) (T : OexC K C) (h0 : PySem.W.findIn K (.ref C) "at" = some none) (hs : ∃ m, base.Ns sysModules m) (D : DefD P w K mg base "copied" 4 ["thing", "levels"] [.int 20] (spX K 2 (PCp 3))) :
    FnR P w K mg base CX0 anyR 5 f fd ["self", "at"] (spIni K C ["at"]) := by
  refine fn_ini (cx := CX0) (R := anyR) F T sc_BadRule rfl rfl rfl (fun L f cd cc => ⟨rfl, rfl, rfl, _, rfl⟩) (fun vs H Q E h => spIni_len h) (fun A out s H vs Q E hr _ h => ?_)
  obtain ⟨U, n, a, ws, ds, rfl, ok, hU, hd, hl, nice, q⟩ := h
  obtain ⟨d0, rfl⟩ := List.length_eq_one_iff.mp hl
  obtain ⟨v0, rfl, hv0⟩ := dd1 hd
  have o0 := nice d0 (by simp)
  have m0 := fmt_fits o0.1
  refine ⟨a, _, _, rfl, U.le _ _ _ hU, (pe_joined (.cons pe_str (.cons (pe_fmtD hr hs (pv 1)) .nil))), pss_one (ps_ost (pv 0) (pe_goD D hr (pa_cons (pv 1) pa_nil))), ?_⟩
  have size := sizeLine_eq
  have fit0 := m0.2
  have len0 : ("no rule, at: " : Str).length ≤ 100 := by decide +kernel
  refine js_str (by simp only [str_len, emp_len]; omega) ?_
  refine js_fmt rfl (hv0.same (U.le _)) m0.1 (by simp only [str_len, emp_len]; have := m0.2; omega) ?_
  refine ⟨U.le _ _ _ hU, ?_⟩
  exact s_ost1 (At.here ok) (e1_copied (a1_cons (e1_var rfl hv0) a1_nil) o0.2) rfl hU T h0 fun y dx H1 ok1 b e1 e2 ne nd dy => q H1 dx [y] ok1 b e1 e2 (.cons dy .nil)
theorem ini_BadDeed (F : IniF K P "BadDeed.__init__" s_BadDeed f C cda cc fd) (T : OexC K C) (h0 : PySem.W.findIn K (.ref C) "deed" = some none) (hs : ∃ m, base.Ns sysModules m) (D : DefD P w K mg base "copied" 4 ["thing", "levels"] [.int 20] (spX K 2 (PCp 3))) :
    FnR P w K mg base CX0 anyR 5 f fd ["self", "deed"] (spIni K C ["deed"]) := by
  refine fn_ini (cx := CX0) (R := anyR) F T sc_BadDeed rfl rfl rfl (fun L f cd cc => ⟨rfl, rfl, rfl, _, rfl⟩) (fun vs H Q E h => spIni_len h) (fun A out s H vs Q E hr _ h => ?_)
  obtain ⟨U, n, a, ws, ds, rfl, ok, hU, hd, hl, nice, q⟩ := h
  obtain ⟨d0, rfl⟩ := List.length_eq_one_iff.mp hl
  obtain ⟨v0, rfl, hv0⟩ := dd1 hd
  have o0 := nice d0 (by simp)
  have m0 := fmt_fits o0.1
  refine ⟨a, _, _, rfl, U.le _ _ _ hU, pe_str, pss_one (ps_ost (pv 0) (pe_goD D hr (pa_cons (pv 1) pa_nil))), ?_⟩
  refine ⟨U.le _ _ _ hU, ?_⟩
  exact s_ost1 (At.here ok) (e1_copied (a1_cons (e1_var rfl hv0) a1_nil) o0.2) rfl hU T h0 fun y dx H1 ok1 b e1 e2 ne nd dy => q H1 dx [y] ok1 b e1 e2 (.cons dy .nil)
theorem ini_BadJournal (F : IniF K P "BadJournal.__init__" s_BadJournal f C cda cc fd) (T : OexC K C) (h0 : PySem.W.findIn K (.ref C) "at" = some none) (hs : ∃ m, base.Ns sysModules m) (D : DefD P w K mg base "copied" 4 ["thing", "levels"] [.int 20] (spX K 2 (PCp 3))) :
    FnR P w K mg base CX0 anyR 5 f fd ["self", "at"] (spIni K C ["at"]) := by
  refine fn_ini (cx := CX0) (R := anyR) F T sc_BadJournal rfl rfl rfl (fun L f cd cc => ⟨rfl, rfl, rfl, _, rfl⟩) (fun vs H Q E h => spIni_len h) (fun A out s H vs Q E hr _ h => ?_)
  obtain ⟨U, n, a, ws, ds, rfl, ok, hU, hd, hl, nice, q⟩ := h
  obtain ⟨d0, rfl⟩ := List.length_eq_one_iff.mp hl
  obtain ⟨v0, rfl, hv0⟩ := dd1 hd
  have o0 := nice d0 (by simp)
  have m0 := fmt_fits o0.1
  refine ⟨a, _, _, rfl, U.le _ _ _ hU, (pe_joined (.cons pe_str (.cons (pe_fmtD hr hs (pv 1)) .nil))), pss_one (ps_ost (pv 0) (pe_goD D hr (pa_cons (pv 1) pa_nil))), ?_⟩
  have size := sizeLine_eq
  have fit0 := m0.2
  have len0 : ("no journal of this net, at: " : Str).length ≤ 100 := by decide +kernel
  refine js_str (by simp only [str_len, emp_len]; omega) ?_
  refine js_fmt rfl (hv0.same (U.le _)) m0.1 (by simp only [str_len, emp_len]; have := m0.2; omega) ?_
  refine ⟨U.le _ _ _ hU, ?_⟩
  exact s_ost1 (At.here ok) (e1_copied (a1_cons (e1_var rfl hv0) a1_nil) o0.2) rfl hU T h0 fun y dx H1 ok1 b e1 e2 ne nd dy => q H1 dx [y] ok1 b e1 e2 (.cons dy .nil)
theorem ini_BadText (F : IniF K P "BadText.__init__" s_BadText f C cda cc fd) (T : OexC K C) (h0 : PySem.W.findIn K (.ref C) "line" = some none) (hs : ∃ m, base.Ns sysModules m) (D : DefD P w K mg base "copied" 4 ["thing", "levels"] [.int 20] (spX K 2 (PCp 3))) :
    FnR P w K mg base CX0 anyR 5 f fd ["self", "line"] (spIni K C ["line"]) := by
  refine fn_ini (cx := CX0) (R := anyR) F T sc_BadText rfl rfl rfl (fun L f cd cc => ⟨rfl, rfl, rfl, _, rfl⟩) (fun vs H Q E h => spIni_len h) (fun A out s H vs Q E hr _ h => ?_)
  obtain ⟨U, n, a, ws, ds, rfl, ok, hU, hd, hl, nice, q⟩ := h
  obtain ⟨d0, rfl⟩ := List.length_eq_one_iff.mp hl
  obtain ⟨v0, rfl, hv0⟩ := dd1 hd
  have o0 := nice d0 (by simp)
  have m0 := fmt_fits o0.1
  refine ⟨a, _, _, rfl, U.le _ _ _ hU, (pe_joined (.cons pe_str (.cons (pe_fmtD hr hs (pv 1)) .nil))), pss_one (ps_ost (pv 0) (pe_goD D hr (pa_cons (pv 1) pa_nil))), ?_⟩
  have size := sizeLine_eq
  have fit0 := m0.2
  have len0 : ("no such text, in the line: " : Str).length ≤ 100 := by decide +kernel
  refine js_str (by simp only [str_len, emp_len]; omega) ?_
  refine js_fmt rfl (hv0.same (U.le _)) m0.1 (by simp only [str_len, emp_len]; have := m0.2; omega) ?_
  refine ⟨U.le _ _ _ hU, ?_⟩
  exact s_ost1 (At.here ok) (e1_copied (a1_cons (e1_var rfl hv0) a1_nil) o0.2) rfl hU T h0 fun y dx H1 ok1 b e1 e2 ne nd dy => q H1 dx [y] ok1 b e1 e2 (.cons dy .nil)
theorem ini_BadName (F : IniF K P "BadName.__init__" s_BadName f C cda cc fd) (T : OexC K C) (h0 : PySem.W.findIn K (.ref C) "name" = some none) (hs : ∃ m, base.Ns sysModules m) (D : DefD P w K mg base "copied" 4 ["thing", "levels"] [.int 20] (spX K 2 (PCp 3))) :
    FnR P w K mg base CX0 anyR 5 f fd ["self", "name"] (spIni K C ["name"]) := by
  refine fn_ini (cx := CX0) (R := anyR) F T sc_BadName rfl rfl rfl (fun L f cd cc => ⟨rfl, rfl, rfl, _, rfl⟩) (fun vs H Q E h => spIni_len h) (fun A out s H vs Q E hr _ h => ?_)
  obtain ⟨U, n, a, ws, ds, rfl, ok, hU, hd, hl, nice, q⟩ := h
  obtain ⟨d0, rfl⟩ := List.length_eq_one_iff.mp hl
  obtain ⟨v0, rfl, hv0⟩ := dd1 hd
  have o0 := nice d0 (by simp)
  have m0 := fmt_fits o0.1
  refine ⟨a, _, _, rfl, U.le _ _ _ hU, pe_str, pss_one (ps_ost (pv 0) (pe_goD D hr (pa_cons (pv 1) pa_nil))), ?_⟩
  refine ⟨U.le _ _ _ hU, ?_⟩
  exact s_ost1 (At.here ok) (e1_copied (a1_cons (e1_var rfl hv0) a1_nil) o0.2) rfl hU T h0 fun y dx H1 ok1 b e1 e2 ne nd dy => q H1 dx [y] ok1 b e1 e2 (.cons dy .nil)
end
end Mw
/-! ### own errors without an own __init__, their text told -/
namespace Mw
open PySem PySem.Spec PyProof.Rows L2
/-- at a: an error of the class at C, its args at t -/
def exs (a C t : Addr) : HO := .ext fun h => h.get? a = some (HandSPX.excO C t)
theorem exs_ok {P : Program} {w : World} {H : Hp} {h : Heap} {a C t : Addr} (e : h.get? a = some (HandSPX.excO C t)) : ObjOk P w H h a (exs a C t) := ⟨e, ⟨_, e⟩, fun _ _ z k => k _ z⟩
section
variable {X : Cx} {pins : List (Addr × Obj)} {σ : L2.St} {H : Hp} {s : Shared} {C : Addr}
/-- X(e), e a text -/
theorem pe_excS {bmB : List Value} {B newId initId : String} {x : Str} {e : Expr} {ta : TE} {p pos : Pos} (F : ExcBaseFacts B newId initId bmB) (q : PySem.W.excIn X.K C bmB newId = true) (gC : X.mg x = some (.ref C)) (kC : PySem.W.keepIn X.K (.ref C) = true) (hg : Gl X x)
    (he : PE X e ta) (hs : starEach [e] X.env = (false, eval e X.env) :: starEach [] X.env := by rfl) (hdb : (x == ("__debug__" : Str)) = false := by decide) (hex : X.ex = [] := by rfl) :
    PE X (.Call (.Name x p) [e] [] pos) (fun σ H Q => ta σ H fun v H1 => ∃ m : Str, v = .str m ∧ ∀ a t, H1 a = none → H1 t = none → a ≠ t → Q (.ref a) (upd (upd H1 t (.tup [.str m])) a (exs a C t))) := by
  constructor
  intro pins s σ H Q I ask
  refine wpAny_Call_Name_kw (ld_glob I hg gC ?_ hdb)
  refine PySem.W.callWith_K (h₀ := X.base) I.ok.mod.kin kC ?_ hs (by rfl)
  rw [hs]
  show wpAny _ _ (spliced ((false, eval e X.env) :: backTo pos (starEach [] X.env))) _ _ s
  refine Calls.spliced_cons (thn (he.run pins s σ H _ I ask) ?_)
  rintro u s1 ⟨v, H1, I1, r1, m, rfl, q1⟩
  obtain ⟨tk, rfl⟩ := r1
  refine Calls.spliced_nil ⟨I1.kIn, show wpAny _ _ (call (.ref C) [.str m tk]) _ _ _ from ?_⟩
  obtain ⟨bm, N, nm, qn, bs, hdct, sn, sub, ab, col, dd, k0, k1, k2, k3, k5, mN, hC, hN, hni, T⟩ := exc_obj I1.kIn q
  obtain ⟨hp, gs, dr, tt, os⟩ := s1
  refine wpAny_call_exc_subT F T hC hN hni (fun h2 a made => ?_) (show 1 ≤ sizeLine by decide)
  obtain ⟨t, isA, noT, isT⟩ := made.there
  have noA := made.new
  have at_ : a ≠ t := fun z => by
    rw [z, isT] at isA
    cases isA
  have nT : H1 t = none := I1.hok.gone noT
  have nA : H1 a = none := I1.hok.gone noA
  have I2 : Inv X pins σ (upd H1 t (.tup [.str m])) ⟨h2, gs, dr, tt, os⟩ := I1.laidN (t' := tt) made.keeps noT nT ⟨show 1 ≤ sizeLine by decide, [.str m tk], .cons ⟨_, rfl⟩ .nil, _, isT, rfl, 0, rfl⟩
  have live : ∀ b o, hp.get? b = some o → b ≠ a := fun b o e z => by
    rw [z, noA] at e
    cases e
  have n0 : X.s_0.heap.get? a = none := by
    cases z : X.s_0.heap.get? a with
    | none => rfl
    | some o =>
      obtain ⟨o2, z2⟩ := I1.base.there a o z (by
        rw [hex]
        exact no_mem)
      exact absurd rfl (live a o2 z2)
  have nL : a ≠ X.env.locals := by
    obtain ⟨_, ⟨o, _, _, ho, _⟩, _⟩ := I1.loc
    exact fun z => live _ o ho z.symm
  have nP : ∀ p ∈ X.pn ++ pins, p.1 ≠ a := fun p hp => live _ _ (I1.pin p hp).1
  have J := inv_tell (o := exs a C t) I2 isA rfl (by rw [upd_ne at_]; exact nA) n0 nL nP (exs_ok isA)
  exact ⟨.ref a, _, J, rfl, q1 a t nA nT at_⟩
/-- str(err) -/
theorem str_exs {a t : Addr} {m : Str} {Q : VK} (I : Inv X pins σ H s) (hu : X.A.units + 2 < cLine) (ha : H a = some (exs a C t)) (ht : H t = some (.tup [.str m])) (hs : PySem.W.findIn X.K (.ref C) "__str__" = some (some (.builtin "BaseException.__str__"))) (hB : PySem.W.subIn X.K (.ref C) (.type "BaseException") = some true)
    (q : Q (.str m) H) : wpAny (model X.prog X.w) X.A (call (.type "str") [.ref a]) (EP X pins σ Q) X.xe s := by
  have isA : s.heap.get? a = some (HandSPX.excO C t) := (I.hok a _ ha).1
  obtain ⟨_, its, rv, isT⟩ := I.hok t _ ht
  cases rv with
  | cons r1 r2 =>
    cases r2
    obtain ⟨tk, rfl⟩ := r1
    obtain ⟨o, ho, hc, n, hd⟩ := isT
    exact PySem.P.str_of_C_one hu ⟨I.kIn, _, _, isA, rfl, rfl, rfl⟩ ⟨o, n, ho, hc, hd⟩ hs hB ⟨.str m, H, I, ⟨tk, rfl⟩, q⟩
end
/-- isinstance(err, c) -/
def rIsEs (K : PySem.W.Frag) : List V → Hp → VK → Prop := fun xs H Q => ∃ (a D t : Addr) (c : V) (cv : Value) (b : Bool), xs = [.ref a, c] ∧ H a = some (exs a D t) ∧ ExcC K D ∧ (∀ u, RelV c u → u = cv) ∧ PySem.W.kitOne K (.ref D) cv = some b ∧ Q (.bl b) H
theorem call_isEs {X : Cx} : CallR X (.builtin "isinstance") (rIsEs X.K) := by
  intro pins s σ H xs us Q I r h
  obtain ⟨a, D, t, c, cv, b, rfl, ha, C, hcv, e, q⟩ := h
  cases r with
  | cons r1 rr =>
    cases rr with
    | cons r2 rr =>
      cases rr
      cases r1
      have ec := hcv _ r2
      subst ec
      have isA : s.heap.get? a = some (HandSPX.excO D t) := (I.hok a _ ha).1
      have hcl : (PySem.W.clsIn X.K D).isSome = true := by
        obtain ⟨cd, hc, _⟩ := PySem.W.any_some C.hd
        rw [hc] <;> rfl
      have place : PySem.W.InstAt s.heap a (HandSPX.excO D t) D none := ⟨isA, rfl, rfl, trivial⟩
      refine PySem.W.kia_one (PySem.W.kitx_exc hcl C.hg C.hk C.hs C.ha C.hn C.ht C.hm) I.kIn place e (fun z => nomatch z) (fun tk => ?_)
      exact ⟨.bl b, H, I.kept (t' := tk) fun _ _ z => z, rfl, q⟩
end Mw
namespace Mw
open PySem PySem.Spec PyProof.Rows L2
/-! ### values of which is told what they are, not as data -/
abbrev RV := Hp → V → Prop
def Mono (R : RV) : Prop := ∀ V1 V2 v, Same V1 V2 → R V1 v → R V2 v
inductive AllR (X : Hp) : List RV → List V → Prop
  | nil : AllR X [] []
  | cons {R : RV} {Rs : List RV} {v : V} {vs : List V} : R X v → AllR X Rs vs → AllR X (R :: Rs) (v :: vs)
theorem AllR.same {X1 X2 : Hp} (e : Same X1 X2) : ∀ {Rs : List RV} {vs : List V}, (∀ R ∈ Rs, Mono R) → AllR X1 Rs vs → AllR X2 Rs vs
  | _, _, _, .nil => .nil
  | _, _, m, .cons h t => .cons (m _ List.mem_cons_self _ _ _ e h) (AllR.same e (fun R hR => m R (List.mem_cons_of_mem _ hR)) t)
theorem AllR.len {X : Hp} : ∀ {Rs : List RV} {vs : List V}, AllR X Rs vs → vs.length = Rs.length
  | _, _, .nil => rfl
  | _, _, .cons _ t => congrArg Nat.succ t.len
theorem AllR.app {X : Hp} : ∀ {Rs Ss : List RV} {vs ws : List V}, AllR X Rs vs → AllR X Ss ws → AllR X (Rs ++ Ss) (vs ++ ws)
  | _, _, _, _, .nil, b => b
  | _, _, _, _, .cons h t, b => .cons h (t.app b)
theorem AllR.at {X : Hp} : ∀ {Rs : List RV} {vs : List V} {i : Nat} {R : RV}, AllR X Rs vs → Rs[i]? = some R → ∃ v, vs[i]? = some v ∧ R X v
  | _, _, _, _, .nil, h => by simp at h
  | _, _, 0, _, .cons h _, e => by
    cases e
    exact ⟨_, rfl, h⟩
  | _, _, i + 1, _, .cons _ t, e => AllR.at (i := i) t e
/-- a list of such things -/
def IsL (Rs : List RV) : RV := fun X v => ∃ (p : Addr) (xs : List V), v = .ref p ∧ X p = some (.lst xs) ∧ AllR X Rs xs
theorem isL_mono {Rs : List RV} (m : ∀ R ∈ Rs, Mono R) : Mono (IsL Rs) := fun V1 V2 v e ⟨p, xs, h1, h2, h3⟩ => ⟨p, xs, h1, e _ _ h2, h3.same e m⟩
section
variable {K : PySem.W.Frag} {U : Wo} {M : Hp} {σ : L2.St} {n : Nat} {te ta tb : TE} {t : TA} {R : RV} {Rs Ss : List RV} {D : Ends} {H : Hp}
def XE (U : Wo) (M : Hp) (te : TE) (σ : L2.St) (R : RV) : Prop := ∀ n H, At U n M H → ∀ Q : VK, (∀ v H', U.ok n H' → Same (U.view H) (U.view H') → R (U.view H') v → Q v H') → te σ H Q
def XA (U : Wo) (M : Hp) (t : TA) (σ : L2.St) (Rs : List RV) : Prop := ∀ n H, At U n M H → ∀ Q : List V → Hp → Prop, (∀ vs H', U.ok n H' → Same (U.view H) (U.view H') → AllR (U.view H') Rs vs → Q vs H') → t σ H Q
theorem xa_nil : XA U M tNil σ [] := fun n H a Q q => q [] H a.ok (Same.refl _) .nil
theorem xa_cons (m : Mono R) (h : XE U M te σ R) (hs : XA U M t σ Rs) : XA U M (tCons te t) σ (R :: Rs) := fun n H a Q q =>
  h n H a _ fun v H1 ok1 s1 r1 => hs n H1 (a.step ok1 s1) _ fun vs H2 ok2 s2 r2 => q (v :: vs) H2 ok2 (s1.trans s2) (.cons (m _ _ _ s2 r1) r2)
theorem x_lst (m : ∀ R ∈ Rs, Mono R) (h : XA U M t σ Rs) (z : Rs.length ≤ 100000) : XE U M (tLst t) σ (IsL Rs) := fun n H a Q q =>
  h n H a _ fun vs H1 ok1 s1 r1 => ⟨thousand (by rw [r1.len]; exact z), fun p np => by
    obtain ⟨ok2, s2, f2, _⟩ := U.new (o := .lst vs) ok1 np rfl
    exact q _ _ ok2 (s1.trans s2) ⟨p, vs, rfl, f2, r1.same s2 m⟩⟩
theorem x_var {i : Nat} {v : V} (m : Mono R) (h : σ[i]? = some (some v)) (hr : R M v) : XE U M (tVar i) σ R := fun n H a Q q => ⟨v, h, q v H a.ok (Same.refl _) (m _ _ _ a.up hr)⟩
theorem x_asg {i : Nat} (a : At U n M H) (h : XE U M te σ R) (q : ∀ v H', At U n (U.view H') H' → Same (U.view H) (U.view H') → R (U.view H') v → D.nx (σ.set i (some v)) H') : tAsg te (gName i) D σ H :=
  h n H a _ fun v H1 ok1 s1 r1 => q v H1 (At.here ok1) s1 r1
theorem x_ret (a : At U n M H) (h : XE U M te σ R) (q : ∀ v H', U.ok n H' → Same (U.view H) (U.view H') → R (U.view H') v → D.rt v H') : tRet te D σ H := h n H a _ fun v H1 ok1 s1 r1 => q v H1 ok1 s1 r1
/-- xs[j] -/
theorem x_ix {j : Nat} (mR : Mono R) (h : XE U M te σ (IsL Rs)) (hj : Rs[j]? = some R) : XE U M (tOp (rIxL K) te (tC (.int j))) σ R := fun n H a Q q =>
  h n H a _ fun v H1 ok1 s1 ⟨p, xs, e, hp, r1⟩ => by
    subst e
    obtain ⟨v, hv, rv⟩ := r1.at hj
    exact ⟨p, xs, j, v, rfl, rfl, .inl (.inl (U.le _ _ _ hp)), atI_nat hv, q v H1 ok1 s1 rv⟩
end
/-! errors -/
def ErR (K : PySem.W.Frag) (C : Addr) (fs : List Str) (ds : List PyData) : RV := fun X v => ∃ (a dx : Addr) (ys : List V), v = .ref a ∧ X a = some (exo a C (some dx)) ∧ X dx = some (exd dx (fs.zip ys).reverse) ∧ DdAll K X ys ds
def EsR (C : Addr) (m : Str) : RV := fun X v => ∃ a t : Addr, v = .ref a ∧ X a = some (exs a C t) ∧ X t = some (.tup [.str m])
theorem erR_mono {K : PySem.W.Frag} {C : Addr} {fs : List Str} {ds : List PyData} : Mono (ErR K C fs ds) := fun V1 V2 v e ⟨a, dx, ys, h1, h2, h3, h4⟩ => ⟨a, dx, ys, h1, e _ _ h2, e _ _ h3, h4.same e⟩
theorem esR_mono {C : Addr} {m : Str} : Mono (EsR C m) := fun V1 V2 v e ⟨a, t, h1, h2, h3⟩ => ⟨a, t, h1, e _ _ h2, e _ _ h3⟩
section
variable {K : PySem.W.Frag} {U : Wo} {M : Hp} {σ : L2.St} {t : TA} {C : Addr} {fs : List Str} {ds : List PyData} {E : XK}
theorem made_x {n : Nat} {H : Hp} {a : Addr} {ws : List V} {Q : VK} (ok : U.ok n H) (na : H a = none) (hd : DdAll K (U.view H) ws ds) (l : ds.length = fs.length) (nice : ∀ d ∈ ds, OddM d)
    (q : ∀ v H', U.ok n H' → Same (U.view H) (U.view H') → ErR K C fs ds (U.view H') v → Q v H') : spIni K C fs (.ref a :: ws) (upd H a (exo a C none)) (fun v H2 => v = .non ∧ Q (.ref a) H2) E := by
  obtain ⟨ok1, s1, f1, n1⟩ := U.new (o := exo a C none) ok na rfl
  refine ⟨U, n, a, ws, ds, rfl, ok1, f1, hd.same s1, l, nice, fun H2 dx ys ok2 b e1 e2 dy => ⟨rfl, q _ H2 ok2 (fun c u e => b c u (fun z => ?_) (s1 _ _ e)) ⟨a, dx, ys, rfl, e1, e2, dy⟩⟩⟩
  rw [z, n1] at e
  cases e
theorem x_mkE (h : A1 K U M t σ ds) (l : ds.length = fs.length) (few : fs.length ≤ 1000) (nice : ∀ d ∈ ds, OddM d) : XE U M (tMkE C (spIni K C fs) t E) σ (ErR K C fs ds) := fun n H a Q q =>
  h n H a _ fun vs H1 ok1 s1 d1 => ⟨by rw [d1.len, l]; exact few, fun p np => made_x ok1 np d1 l nice fun v H2 ok2 s2 r2 => q v H2 ok2 (s1.trans s2) r2⟩
theorem x_mkEK {m : Nat} {gV : List V → List V} {es : List PyData} (h : A1 K U M t σ es) (hm : es.length = m) (g : ∀ H vs, DdAll K H vs es → DdAll K H (gV vs) ds) (l : ds.length = fs.length) (nice : ∀ d ∈ ds, OddM d) : XE U M (tMkEK C m (spIni K C fs) gV t E) σ (ErR K C fs ds) := fun n H a Q q =>
  h n H a _ fun vs H1 ok1 s1 d1 => ⟨d1.len.trans hm, fun p np => made_x ok1 np (g _ _ d1) l nice fun v H2 ok2 s2 r2 => q v H2 ok2 (s1.trans s2) r2⟩
theorem x_excS {m : Str} : XE U M (fun σ H Q => tC (.str m) σ H fun v H1 => ∃ m : Str, v = .str m ∧ ∀ a t, H1 a = none → H1 t = none → a ≠ t → Q (.ref a) (upd (upd H1 t (.tup [.str m])) a (exs a C t))) σ (EsR C m) := fun n H a Q q => ⟨m, rfl, fun p t np nt ne => by
    obtain ⟨ok1, s1, f1, _⟩ := U.new (o := .tup [.str m]) a.ok nt rfl
    obtain ⟨ok2, s2, f2, _⟩ := U.new (o := exs p C t) ok1 (p := p) (by rw [upd_ne ne]; exact np) rfl
    exact q _ _ ok2 (s1.trans s2) ⟨p, t, rfl, f2, s2 _ _ f1⟩⟩
/-- err.f -/
theorem e1_erF {te : TE} {f : Str} {i : Nat} {d : PyData} (h : XE U M te σ (ErR K C fs ds)) (x : XfC K C) (hno : PySem.W.findIn K (.ref C) f = some none) (look : ∀ ys : List V, ys.length = ds.length → ∃ y, ys[i]? = some y ∧ (fs.zip ys).reverse.lookup f = some y) (hd : ds[i]? = some d) : E1 K U M (tErF K f te) σ d := fun n H a Q q =>
  h n H a _ fun v H1 ok1 s1 ⟨p, dx, ys, e, h1, h2, h3⟩ => by
    subst e
    obtain ⟨y, hy, hl⟩ := look ys h3.len
    obtain ⟨d2, g1, g2⟩ := h3.at hy
    rw [hd] at g1
    cases g1
    exact ⟨p, C, dx, _, y, rfl, x, hno, U.le _ _ _ h1, U.le _ _ _ h2, hl, q y H1 ok1 s1 g2⟩
end
end Mw
namespace Mw
open PySem PySem.Spec PyProof.Rows L2
section
variable {K : PySem.W.Frag} {U : Wo} {M : Hp} {σ : L2.St} {te ta tb : TE} {Rs Ss : List RV}
theorem x_cat (m1 : ∀ R ∈ Rs, Mono R) (m2 : ∀ R ∈ Ss, Mono R) (h1 : XE U M ta σ (IsL Rs)) (h2 : XE U M tb σ (IsL Ss)) (z : Rs.length + Ss.length ≤ 100000) : XE U M (tOp rCat ta tb) σ (IsL (Rs ++ Ss)) := fun n H a Q q =>
  h1 n H a _ fun v H1 ok1 s1 ⟨p, xs, e, hp, r1⟩ => h2 n H1 (a.step ok1 s1) _ fun u H2 ok2 s2 ⟨b, ys, f, hb, r2⟩ => by
    subst e
    subst f
    refine ⟨p, b, xs, ys, rfl, rfl, U.le _ _ _ (s2 _ _ hp), U.le _ _ _ hb, thousand (by rw [r1.len, r2.len]; exact z), fun l nl => ?_⟩
    obtain ⟨ok3, s3, f3, _⟩ := U.new (o := .lst (xs ++ ys)) ok2 nl rfl
    exact q _ _ ok3 ((s1.trans s2).trans s3) ⟨l, _, rfl, f3, (r1.same (s2.trans s3) m1).app (r2.same s3 m2)⟩
end
/-- a class with an own __init__ -/
structure InitC (P : Program) (w : World) (K : PySem.W.Frag) (mg : Str → Option Value) (base : Heap) (x : Str) (fs ks : List Str) (gV : List V → List V) (C : Addr) : Prop where
  ex : ∃ (f : Addr) (fd : FuncData) (g : List Value → List Value → List Value), MkC K C f ∧ mg x = some (.ref C) ∧ Binds K fd ("self" :: fs) [] ∧ FnR P w K mg base CX0 anyR 5 f fd ("self" :: fs) (spIni K C fs) ∧ KBn K fd ("self" :: fs) 1 ks g (fun vs zs => vs ++ gV zs)
section
variable {X : Cx} {x : Str} {fs ks : List Str} {gV : List V → List V} {C : Addr} {p pos : Pos} {e : Expr} {es : List Expr} {t : TA}
theorem pe_mkC (D : InitC X.prog X.w X.K X.mg X.base x fs ks gV C) {j : Nat} (hr : Rm j X.A) (ha : PA X (e :: es) t) (hj : 6 ≤ j := by decide) (hg : Gl X x := by rfl) (hdb : (x == ("__debug__" : Str)) = false := by decide)
    (he : starEach (e :: es) X.env = (false, eval e X.env) :: starEach es X.env := by rfl) (hpl : (backTo pos (starEach es X.env)).any (·.1) = false := by rfl) :
    PE X (.Call (.Name x p) (e :: es) [] pos) (tMkE C (spIni X.K C fs) t fun _ _ _ => False) := by
  obtain ⟨f, fd, g, T, hm, b, F, _⟩ := D.ex
  exact pe_mkE T F (hr.mono hj) b (fun _ _ => trivial) passAny hg hm ha hdb he hpl
theorem pe_mkCK {kws : List Keyword} {tk : TA} (D : InitC X.prog X.w X.K X.mg X.base x fs ks gV C) {j : Nat} (hr : Rm j X.A) (hkw : PK X kws tk) (hj : 6 ≤ j := by decide) (hg : Gl X x := by rfl) (hall : (backToKw pos (keywordEach kws X.env)).all (·.1.isSome) = true := by rfl)
    (hks : (backToKw pos (keywordEach kws X.env)).filterMap (·.1) = ks := by rfl) (hdb : (x == ("__debug__" : Str)) = false := by decide) (plain : ((backTo pos (starEach [] X.env)).any (·.1) || (backToKw pos (keywordEach kws X.env)).any (·.1.isNone)) = false := by rfl) :
    PE X (.Call (.Name x p) [] kws pos) (tMkEK C ks.length (spIni X.K C fs) gV tk fun _ _ _ => False) := by
  obtain ⟨f, fd, g, T, hm, _, F, b⟩ := D.ex
  exact pe_mkEK T F (hr.mono hj) b (fun _ _ => trivial) passAny hg hm hkw hall hks hdb plain
theorem pe_mkS {C : Addr} {s : Str} {i : Nat} {p2 : Pos} (c : ErrC X.K X.mg x C) (hg : Gl X x := by rfl) (hdb : (x == ("__debug__" : Str)) = false := by decide) (hex : X.ex = [] := by rfl) (hs : starEach [Expr.Constant (.str s) i p2] X.env = (false, eval (.Constant (.str s) i p2) X.env) :: starEach [] X.env := by rfl) :
    PE X (.Call (.Name x p) [.Constant (.str s) i p2] [] pos) (fun σ H Q => tC (.str s) σ H fun v H1 => ∃ m : Str, v = .str m ∧ ∀ a t, H1 a = none → H1 t = none → a ≠ t → Q (.ref a) (upd (upd H1 t (.tup [.str m])) a (exs a C t))) :=
  pe_excS PySem.F.excBase_ValueError c.ex c.g c.k hg pe_str hs hdb hex
end
theorem InitC.g {P : Program} {w : World} {K : PySem.W.Frag} {mg : Str → Option Value} {base : Heap} {x : Str} {fs ks : List Str} {gV : List V → List V} {C : Addr} (D : InitC P w K mg base x fs ks gV C) : mg x = some (.ref C) := by
  obtain ⟨_, _, _, _, h, _⟩ := D.ex
  exact h
/-- all classes, in the law's order -/
structure Cls (P : Program) (w : World) (K : PySem.W.Frag) (mg : Str → Option Value) (base : Heap) (W : Addr) (c : Nat → Addr) : Prop where
  e0 : ErrC K mg "BadFields" (c 0)
  e1 : ErrC K mg "BadNumbers" (c 1)
  e2 : ErrC K mg "BadTree" (c 2)
  e3 : InitC P w K mg base "TooMany" ["what", "most"] ["most", "what"] swap2 (c 3)
  e4 : InitC P w K mg base "BadProgram" ["part"] ["part"] id (c 4)
  e5 : ErrC K mg "OtherFields" (c 5)
  e6 : InitC P w K mg base "BadTest" ["part"] ["part"] id (c 6)
  e7 : InitC P w K mg base "BadPacket" ["packet"] ["packet"] id (c 7)
  e8 : InitC P w K mg base "BadMost" ["most"] ["most"] id (c 8)
  e9 : InitC P w K mg base "NoPlace" ["place"] ["place"] id (c 9)
  e10 : InitC P w K mg base "BadWord" ["word"] ["word"] id (c 10)
  e11 : InitC P w K mg base "BadTests" ["at"] ["at"] id (c 11)
  e12 : InitC P w K mg base "NoPart" ["path"] ["path"] id (c 12)
  e13 : ErrC K mg "BadLot" (c 13)
  e14 : InitC P w K mg base "BadNet" ["part"] ["part"] id (c 14)
  e15 : InitC P w K mg base "BadRule" ["at"] ["at"] id (c 15)
  e16 : InitC P w K mg base "BadDeed" ["deed"] ["deed"] id (c 16)
  e17 : ErrC K mg "NothingLeft" (c 17)
  e18 : InitC P w K mg base "BadJournal" ["at"] ["at"] id (c 18)
  e19 : InitC P w K mg base "BadText" ["line"] ["line"] id (c 19)
  e20 : InitC P w K mg base "BadName" ["name"] ["name"] id (c 20)
  way : ErrC K mg "WayError" W
  x : ∀ i, i < 21 → ExcC K (c i)
  xw : ExcC K W
  f : ∀ i, i < 21 → XfC K (c i)
  b : ∀ i, i < 21 → PySem.W.subIn K (.ref (c i)) (.type "BaseException") = some true
  kit : ∀ i j, i < 21 → j < 21 → PySem.W.kitOne K (.ref (c i)) (.ref (c j)) = some (decide (j = i))
  isW : ∀ i, i < 21 → PySem.W.kitOne K (.ref (c i)) (.ref W) = some true
  isV : ∀ i, i < 21 → PySem.W.kitOne K (.ref (c i)) (.type "ValueError") = some true
  wV : PySem.W.kitOne K (.ref W) (.type "ValueError") = some true
  wN : ∀ i, i < 21 → PySem.W.kitOne K (.ref W) (.ref (c i)) = some false
  str : ∀ i, i < 21 → PySem.W.findIn K (.ref (c i)) "__str__" = some (some (.builtin "BaseException.__str__"))
  n3_what : PySem.W.findIn K (.ref (c 3)) "what" = some none
  n3_most : PySem.W.findIn K (.ref (c 3)) "most" = some none
  n4_part : PySem.W.findIn K (.ref (c 4)) "part" = some none
  n6_part : PySem.W.findIn K (.ref (c 6)) "part" = some none
  n7_packet : PySem.W.findIn K (.ref (c 7)) "packet" = some none
  n8_most : PySem.W.findIn K (.ref (c 8)) "most" = some none
  n9_place : PySem.W.findIn K (.ref (c 9)) "place" = some none
  n10_word : PySem.W.findIn K (.ref (c 10)) "word" = some none
  n11_at : PySem.W.findIn K (.ref (c 11)) "at" = some none
  n12_path : PySem.W.findIn K (.ref (c 12)) "path" = some none
  n14_part : PySem.W.findIn K (.ref (c 14)) "part" = some none
  n15_at : PySem.W.findIn K (.ref (c 15)) "at" = some none
  n16_deed : PySem.W.findIn K (.ref (c 16)) "deed" = some none
  n18_at : PySem.W.findIn K (.ref (c 18)) "at" = some none
  n19_line : PySem.W.findIn K (.ref (c 19)) "line" = some none
  n20_name : PySem.W.findIn K (.ref (c 20)) "name" = some none
end Mw
namespace Mw
open PySem PySem.Spec PyProof.Rows L2

theorem mono_nil : ∀ R ∈ ([] : List RV), Mono R := fun _ h => nomatch h
theorem mono_cons {R0 : RV} {Rs : List RV} (h : Mono R0) (t : ∀ R ∈ Rs, Mono R) : ∀ R ∈ R0 :: Rs, Mono R := fun R hR => (List.mem_cons.mp hR).elim (fun e => e ▸ h) (t R)
theorem mono_app {Rs Ss : List RV} (h : ∀ R ∈ Rs, Mono R) (g : ∀ R ∈ Ss, Mono R) : ∀ R ∈ Rs ++ Ss, Mono R := fun R hR => (List.mem_append.mp hR).elim (h R) (g R)
theorem odd1 {d0 : PyData} (o : OddM d0) : ∀ d ∈ [d0], OddM d := fun d hd => by
  rw [List.mem_singleton.mp hd]
  exact o
theorem odd2 {d0 d1 : PyData} (o0 : OddM d0) (o1 : OddM d1) : ∀ d ∈ [d0, d1], OddM d := fun d hd => by
  rcases List.mem_cons.mp hd with rfl | hd
  · exact o0
  · rw [List.mem_singleton.mp hd]
    exact o1
/-- C(a text), sealed -/
def tExS (C : Addr) (s : Str) : TE := fun σ H Q => tC (.str s) σ H fun v H1 => ∃ m : Str, v = .str m ∧ ∀ a t, H1 a = none → H1 t = none → a ≠ t → Q (.ref a) (upd (upd H1 t (.tup [.str m])) a (exs a C t))
theorem x_exS {U : Wo} {M : Hp} {σ : L2.St} {C : Addr} {m : Str} : XE U M (tExS C m) σ (EsR C m) := x_excS
theorem swap_all {K : PySem.W.Frag} {d0 d1 : PyData} (H : Hp) (vs : List V) (h : DdAll K H vs [d1, d0]) : DdAll K H (swap2 vs) [d0, d1] := by
  cases h with
  | cons a t => cases t with
    | cons b t =>
      cases t
      exact .cons b (.cons a .nil)
@[irreducible] def tE0 (K : PySem.W.Frag) (c : Nat → Addr) : TE := tLst (tCons (tExS (c 0) "as said") (tCons (tExS (c 1) "as said") (tCons (tExS (c 2) "as said") (tCons (tMkE (c 3) (spIni K (c 3) ["what", "most"]) (tCons (tVar 0) (tCons (tVar 1) tNil)) (fun _ _ _ => False)) tNil))))
def RE0 (K : PySem.W.Frag) (c : Nat → Addr) (d0 d1 : PyData) : List RV := [EsR (c 0) "as said", EsR (c 1) "as said", EsR (c 2) "as said", ErR K (c 3) ["what", "most"] [d0, d1]]
theorem mE0 {K : PySem.W.Frag} {c : Nat → Addr} {d0 d1 : PyData} : ∀ R ∈ RE0 K c d0 d1, Mono R := (mono_cons esR_mono (mono_cons esR_mono (mono_cons esR_mono (mono_cons erR_mono mono_nil))))
theorem xE0 {K : PySem.W.Frag} {U : Wo} {M : Hp} {σ : L2.St} {c : Nat → Addr} {d0 d1 : PyData} {v0 v1 : V} (s0 : σ[0]? = some (some v0)) (s1 : σ[1]? = some (some v1)) (h0 : Dd K M v0 d0) (h1 : Dd K M v1 d1) (o0 : OddM d0) (o1 : OddM d1) : XE U M (tE0 K c) σ (IsL (RE0 K c d0 d1)) := by
  unfold tE0
  exact x_lst mE0 (xa_cons esR_mono x_exS (xa_cons esR_mono x_exS (xa_cons esR_mono x_exS (xa_cons erR_mono (x_mkE (fs := ["what", "most"]) (a1_cons (e1_var s0 h0) (a1_cons (e1_var s1 h1) a1_nil)) rfl (by decide) (odd2 o0 o1)) xa_nil)))) (show 4 ≤ 100000 by decide)
@[irreducible] def tE1 (K : PySem.W.Frag) (c : Nat → Addr) : TE := tLst (tCons (tMkE (c 4) (spIni K (c 4) ["part"]) (tCons (tVar 0) tNil) (fun _ _ _ => False)) (tCons (tExS (c 5) "as said") (tCons (tMkE (c 6) (spIni K (c 6) ["part"]) (tCons (tVar 0) tNil) (fun _ _ _ => False)) (tCons (tMkE (c 7) (spIni K (c 7) ["packet"]) (tCons (tVar 0) tNil) (fun _ _ _ => False)) (tCons (tMkE (c 8) (spIni K (c 8) ["most"]) (tCons (tVar 0) tNil) (fun _ _ _ => False)) tNil)))))
def RE1 (K : PySem.W.Frag) (c : Nat → Addr) (d0 d1 : PyData) : List RV := [ErR K (c 4) ["part"] [d0], EsR (c 5) "as said", ErR K (c 6) ["part"] [d0], ErR K (c 7) ["packet"] [d0], ErR K (c 8) ["most"] [d0]]
theorem mE1 {K : PySem.W.Frag} {c : Nat → Addr} {d0 d1 : PyData} : ∀ R ∈ RE1 K c d0 d1, Mono R := (mono_cons erR_mono (mono_cons esR_mono (mono_cons erR_mono (mono_cons erR_mono (mono_cons erR_mono mono_nil)))))
theorem xE1 {K : PySem.W.Frag} {U : Wo} {M : Hp} {σ : L2.St} {c : Nat → Addr} {d0 d1 : PyData} {v0 v1 : V} (s0 : σ[0]? = some (some v0)) (s1 : σ[1]? = some (some v1)) (h0 : Dd K M v0 d0) (h1 : Dd K M v1 d1) (o0 : OddM d0) (o1 : OddM d1) : XE U M (tE1 K c) σ (IsL (RE1 K c d0 d1)) := by
  unfold tE1
  exact x_lst mE1 (xa_cons erR_mono (x_mkE (fs := ["part"]) (a1_cons (e1_var s0 h0) a1_nil) rfl (by decide) (odd1 o0)) (xa_cons esR_mono x_exS (xa_cons erR_mono (x_mkE (fs := ["part"]) (a1_cons (e1_var s0 h0) a1_nil) rfl (by decide) (odd1 o0)) (xa_cons erR_mono (x_mkE (fs := ["packet"]) (a1_cons (e1_var s0 h0) a1_nil) rfl (by decide) (odd1 o0)) (xa_cons erR_mono (x_mkE (fs := ["most"]) (a1_cons (e1_var s0 h0) a1_nil) rfl (by decide) (odd1 o0)) xa_nil))))) (show 5 ≤ 100000 by decide)
@[irreducible] def tE2 (K : PySem.W.Frag) (c : Nat → Addr) : TE := tLst (tCons (tMkE (c 9) (spIni K (c 9) ["place"]) (tCons (tVar 0) tNil) (fun _ _ _ => False)) (tCons (tMkE (c 10) (spIni K (c 10) ["word"]) (tCons (tVar 0) tNil) (fun _ _ _ => False)) (tCons (tMkE (c 11) (spIni K (c 11) ["at"]) (tCons (tVar 0) tNil) (fun _ _ _ => False)) (tCons (tMkE (c 12) (spIni K (c 12) ["path"]) (tCons (tVar 0) tNil) (fun _ _ _ => False)) (tCons (tExS (c 13) "as said") tNil)))))
def RE2 (K : PySem.W.Frag) (c : Nat → Addr) (d0 d1 : PyData) : List RV := [ErR K (c 9) ["place"] [d0], ErR K (c 10) ["word"] [d0], ErR K (c 11) ["at"] [d0], ErR K (c 12) ["path"] [d0], EsR (c 13) "as said"]
theorem mE2 {K : PySem.W.Frag} {c : Nat → Addr} {d0 d1 : PyData} : ∀ R ∈ RE2 K c d0 d1, Mono R := (mono_cons erR_mono (mono_cons erR_mono (mono_cons erR_mono (mono_cons erR_mono (mono_cons esR_mono mono_nil)))))
theorem xE2 {K : PySem.W.Frag} {U : Wo} {M : Hp} {σ : L2.St} {c : Nat → Addr} {d0 d1 : PyData} {v0 v1 : V} (s0 : σ[0]? = some (some v0)) (s1 : σ[1]? = some (some v1)) (h0 : Dd K M v0 d0) (h1 : Dd K M v1 d1) (o0 : OddM d0) (o1 : OddM d1) : XE U M (tE2 K c) σ (IsL (RE2 K c d0 d1)) := by
  unfold tE2
  exact x_lst mE2 (xa_cons erR_mono (x_mkE (fs := ["place"]) (a1_cons (e1_var s0 h0) a1_nil) rfl (by decide) (odd1 o0)) (xa_cons erR_mono (x_mkE (fs := ["word"]) (a1_cons (e1_var s0 h0) a1_nil) rfl (by decide) (odd1 o0)) (xa_cons erR_mono (x_mkE (fs := ["at"]) (a1_cons (e1_var s0 h0) a1_nil) rfl (by decide) (odd1 o0)) (xa_cons erR_mono (x_mkE (fs := ["path"]) (a1_cons (e1_var s0 h0) a1_nil) rfl (by decide) (odd1 o0)) (xa_cons esR_mono x_exS xa_nil))))) (show 5 ≤ 100000 by decide)
@[irreducible] def tE3 (K : PySem.W.Frag) (c : Nat → Addr) : TE := tLst (tCons (tMkE (c 14) (spIni K (c 14) ["part"]) (tCons (tVar 0) tNil) (fun _ _ _ => False)) (tCons (tMkE (c 15) (spIni K (c 15) ["at"]) (tCons (tVar 0) tNil) (fun _ _ _ => False)) (tCons (tMkE (c 16) (spIni K (c 16) ["deed"]) (tCons (tVar 0) tNil) (fun _ _ _ => False)) (tCons (tExS (c 17) "as said") (tCons (tMkE (c 18) (spIni K (c 18) ["at"]) (tCons (tVar 0) tNil) (fun _ _ _ => False)) tNil)))))
def RE3 (K : PySem.W.Frag) (c : Nat → Addr) (d0 d1 : PyData) : List RV := [ErR K (c 14) ["part"] [d0], ErR K (c 15) ["at"] [d0], ErR K (c 16) ["deed"] [d0], EsR (c 17) "as said", ErR K (c 18) ["at"] [d0]]
theorem mE3 {K : PySem.W.Frag} {c : Nat → Addr} {d0 d1 : PyData} : ∀ R ∈ RE3 K c d0 d1, Mono R := (mono_cons erR_mono (mono_cons erR_mono (mono_cons erR_mono (mono_cons esR_mono (mono_cons erR_mono mono_nil)))))
theorem xE3 {K : PySem.W.Frag} {U : Wo} {M : Hp} {σ : L2.St} {c : Nat → Addr} {d0 d1 : PyData} {v0 v1 : V} (s0 : σ[0]? = some (some v0)) (s1 : σ[1]? = some (some v1)) (h0 : Dd K M v0 d0) (h1 : Dd K M v1 d1) (o0 : OddM d0) (o1 : OddM d1) : XE U M (tE3 K c) σ (IsL (RE3 K c d0 d1)) := by
  unfold tE3
  exact x_lst mE3 (xa_cons erR_mono (x_mkE (fs := ["part"]) (a1_cons (e1_var s0 h0) a1_nil) rfl (by decide) (odd1 o0)) (xa_cons erR_mono (x_mkE (fs := ["at"]) (a1_cons (e1_var s0 h0) a1_nil) rfl (by decide) (odd1 o0)) (xa_cons erR_mono (x_mkE (fs := ["deed"]) (a1_cons (e1_var s0 h0) a1_nil) rfl (by decide) (odd1 o0)) (xa_cons esR_mono x_exS (xa_cons erR_mono (x_mkE (fs := ["at"]) (a1_cons (e1_var s0 h0) a1_nil) rfl (by decide) (odd1 o0)) xa_nil))))) (show 5 ≤ 100000 by decide)
@[irreducible] def tE4 (K : PySem.W.Frag) (c : Nat → Addr) : TE := tLst (tCons (tMkE (c 19) (spIni K (c 19) ["line"]) (tCons (tVar 0) tNil) (fun _ _ _ => False)) (tCons (tMkE (c 20) (spIni K (c 20) ["name"]) (tCons (tVar 0) tNil) (fun _ _ _ => False)) tNil))
def RE4 (K : PySem.W.Frag) (c : Nat → Addr) (d0 d1 : PyData) : List RV := [ErR K (c 19) ["line"] [d0], ErR K (c 20) ["name"] [d0]]
theorem mE4 {K : PySem.W.Frag} {c : Nat → Addr} {d0 d1 : PyData} : ∀ R ∈ RE4 K c d0 d1, Mono R := (mono_cons erR_mono (mono_cons erR_mono mono_nil))
theorem xE4 {K : PySem.W.Frag} {U : Wo} {M : Hp} {σ : L2.St} {c : Nat → Addr} {d0 d1 : PyData} {v0 v1 : V} (s0 : σ[0]? = some (some v0)) (s1 : σ[1]? = some (some v1)) (h0 : Dd K M v0 d0) (h1 : Dd K M v1 d1) (o0 : OddM d0) (o1 : OddM d1) : XE U M (tE4 K c) σ (IsL (RE4 K c d0 d1)) := by
  unfold tE4
  exact x_lst mE4 (xa_cons erR_mono (x_mkE (fs := ["line"]) (a1_cons (e1_var s0 h0) a1_nil) rfl (by decide) (odd1 o0)) (xa_cons erR_mono (x_mkE (fs := ["name"]) (a1_cons (e1_var s0 h0) a1_nil) rfl (by decide) (odd1 o0)) xa_nil)) (show 2 ≤ 100000 by decide)
@[irreducible] def tN0 (K : PySem.W.Frag) (c : Nat → Addr) : TE := tLst (tCons (tMkEK (c 3) (List.length (α := Str) ["most", "what"]) (spIni K (c 3) ["what", "most"]) swap2 (tCons (tVar 1) (tCons (tVar 0) tNil)) (fun _ _ _ => False)) (tCons (tMkEK (c 4) (List.length (α := Str) ["part"]) (spIni K (c 4) ["part"]) id (tCons (tVar 0) tNil) (fun _ _ _ => False)) (tCons (tMkEK (c 6) (List.length (α := Str) ["part"]) (spIni K (c 6) ["part"]) id (tCons (tVar 0) tNil) (fun _ _ _ => False)) (tCons (tMkEK (c 7) (List.length (α := Str) ["packet"]) (spIni K (c 7) ["packet"]) id (tCons (tVar 0) tNil) (fun _ _ _ => False)) tNil))))
def RN0 (K : PySem.W.Frag) (c : Nat → Addr) (d0 d1 : PyData) : List RV := [ErR K (c 3) ["what", "most"] [d0, d1], ErR K (c 4) ["part"] [d0], ErR K (c 6) ["part"] [d0], ErR K (c 7) ["packet"] [d0]]
theorem mN0 {K : PySem.W.Frag} {c : Nat → Addr} {d0 d1 : PyData} : ∀ R ∈ RN0 K c d0 d1, Mono R := (mono_cons erR_mono (mono_cons erR_mono (mono_cons erR_mono (mono_cons erR_mono mono_nil))))
theorem xN0 {K : PySem.W.Frag} {U : Wo} {M : Hp} {σ : L2.St} {c : Nat → Addr} {d0 d1 : PyData} {v0 v1 : V} (s0 : σ[0]? = some (some v0)) (s1 : σ[1]? = some (some v1)) (h0 : Dd K M v0 d0) (h1 : Dd K M v1 d1) (o0 : OddM d0) (o1 : OddM d1) : XE U M (tN0 K c) σ (IsL (RN0 K c d0 d1)) := by
  unfold tN0
  exact x_lst mN0 (xa_cons erR_mono (x_mkEK (fs := ["what", "most"]) (ds := [d0, d1]) (es := [d1, d0]) (a1_cons (e1_var s1 h1) (a1_cons (e1_var s0 h0) a1_nil)) rfl swap_all rfl (odd2 o0 o1)) (xa_cons erR_mono (x_mkEK (fs := ["part"]) (ds := [d0]) (es := [d0]) (a1_cons (e1_var s0 h0) a1_nil) rfl (fun _ _ z => z) rfl (odd1 o0)) (xa_cons erR_mono (x_mkEK (fs := ["part"]) (ds := [d0]) (es := [d0]) (a1_cons (e1_var s0 h0) a1_nil) rfl (fun _ _ z => z) rfl (odd1 o0)) (xa_cons erR_mono (x_mkEK (fs := ["packet"]) (ds := [d0]) (es := [d0]) (a1_cons (e1_var s0 h0) a1_nil) rfl (fun _ _ z => z) rfl (odd1 o0)) xa_nil)))) (show 4 ≤ 100000 by decide)
@[irreducible] def tN1 (K : PySem.W.Frag) (c : Nat → Addr) : TE := tLst (tCons (tMkEK (c 8) (List.length (α := Str) ["most"]) (spIni K (c 8) ["most"]) id (tCons (tVar 0) tNil) (fun _ _ _ => False)) (tCons (tMkEK (c 9) (List.length (α := Str) ["place"]) (spIni K (c 9) ["place"]) id (tCons (tVar 0) tNil) (fun _ _ _ => False)) (tCons (tMkEK (c 10) (List.length (α := Str) ["word"]) (spIni K (c 10) ["word"]) id (tCons (tVar 0) tNil) (fun _ _ _ => False)) (tCons (tMkEK (c 11) (List.length (α := Str) ["at"]) (spIni K (c 11) ["at"]) id (tCons (tVar 0) tNil) (fun _ _ _ => False)) tNil))))
def RN1 (K : PySem.W.Frag) (c : Nat → Addr) (d0 d1 : PyData) : List RV := [ErR K (c 8) ["most"] [d0], ErR K (c 9) ["place"] [d0], ErR K (c 10) ["word"] [d0], ErR K (c 11) ["at"] [d0]]
theorem mN1 {K : PySem.W.Frag} {c : Nat → Addr} {d0 d1 : PyData} : ∀ R ∈ RN1 K c d0 d1, Mono R := (mono_cons erR_mono (mono_cons erR_mono (mono_cons erR_mono (mono_cons erR_mono mono_nil))))
theorem xN1 {K : PySem.W.Frag} {U : Wo} {M : Hp} {σ : L2.St} {c : Nat → Addr} {d0 d1 : PyData} {v0 v1 : V} (s0 : σ[0]? = some (some v0)) (s1 : σ[1]? = some (some v1)) (h0 : Dd K M v0 d0) (h1 : Dd K M v1 d1) (o0 : OddM d0) (o1 : OddM d1) : XE U M (tN1 K c) σ (IsL (RN1 K c d0 d1)) := by
  unfold tN1
  exact x_lst mN1 (xa_cons erR_mono (x_mkEK (fs := ["most"]) (ds := [d0]) (es := [d0]) (a1_cons (e1_var s0 h0) a1_nil) rfl (fun _ _ z => z) rfl (odd1 o0)) (xa_cons erR_mono (x_mkEK (fs := ["place"]) (ds := [d0]) (es := [d0]) (a1_cons (e1_var s0 h0) a1_nil) rfl (fun _ _ z => z) rfl (odd1 o0)) (xa_cons erR_mono (x_mkEK (fs := ["word"]) (ds := [d0]) (es := [d0]) (a1_cons (e1_var s0 h0) a1_nil) rfl (fun _ _ z => z) rfl (odd1 o0)) (xa_cons erR_mono (x_mkEK (fs := ["at"]) (ds := [d0]) (es := [d0]) (a1_cons (e1_var s0 h0) a1_nil) rfl (fun _ _ z => z) rfl (odd1 o0)) xa_nil)))) (show 4 ≤ 100000 by decide)
@[irreducible] def tN2 (K : PySem.W.Frag) (c : Nat → Addr) : TE := tLst (tCons (tMkEK (c 12) (List.length (α := Str) ["path"]) (spIni K (c 12) ["path"]) id (tCons (tVar 0) tNil) (fun _ _ _ => False)) (tCons (tMkEK (c 14) (List.length (α := Str) ["part"]) (spIni K (c 14) ["part"]) id (tCons (tVar 0) tNil) (fun _ _ _ => False)) (tCons (tMkEK (c 15) (List.length (α := Str) ["at"]) (spIni K (c 15) ["at"]) id (tCons (tVar 0) tNil) (fun _ _ _ => False)) (tCons (tMkEK (c 16) (List.length (α := Str) ["deed"]) (spIni K (c 16) ["deed"]) id (tCons (tVar 0) tNil) (fun _ _ _ => False)) tNil))))
def RN2 (K : PySem.W.Frag) (c : Nat → Addr) (d0 d1 : PyData) : List RV := [ErR K (c 12) ["path"] [d0], ErR K (c 14) ["part"] [d0], ErR K (c 15) ["at"] [d0], ErR K (c 16) ["deed"] [d0]]
theorem mN2 {K : PySem.W.Frag} {c : Nat → Addr} {d0 d1 : PyData} : ∀ R ∈ RN2 K c d0 d1, Mono R := (mono_cons erR_mono (mono_cons erR_mono (mono_cons erR_mono (mono_cons erR_mono mono_nil))))
theorem xN2 {K : PySem.W.Frag} {U : Wo} {M : Hp} {σ : L2.St} {c : Nat → Addr} {d0 d1 : PyData} {v0 v1 : V} (s0 : σ[0]? = some (some v0)) (s1 : σ[1]? = some (some v1)) (h0 : Dd K M v0 d0) (h1 : Dd K M v1 d1) (o0 : OddM d0) (o1 : OddM d1) : XE U M (tN2 K c) σ (IsL (RN2 K c d0 d1)) := by
  unfold tN2
  exact x_lst mN2 (xa_cons erR_mono (x_mkEK (fs := ["path"]) (ds := [d0]) (es := [d0]) (a1_cons (e1_var s0 h0) a1_nil) rfl (fun _ _ z => z) rfl (odd1 o0)) (xa_cons erR_mono (x_mkEK (fs := ["part"]) (ds := [d0]) (es := [d0]) (a1_cons (e1_var s0 h0) a1_nil) rfl (fun _ _ z => z) rfl (odd1 o0)) (xa_cons erR_mono (x_mkEK (fs := ["at"]) (ds := [d0]) (es := [d0]) (a1_cons (e1_var s0 h0) a1_nil) rfl (fun _ _ z => z) rfl (odd1 o0)) (xa_cons erR_mono (x_mkEK (fs := ["deed"]) (ds := [d0]) (es := [d0]) (a1_cons (e1_var s0 h0) a1_nil) rfl (fun _ _ z => z) rfl (odd1 o0)) xa_nil)))) (show 4 ≤ 100000 by decide)
@[irreducible] def tN3 (K : PySem.W.Frag) (c : Nat → Addr) : TE := tLst (tCons (tMkEK (c 18) (List.length (α := Str) ["at"]) (spIni K (c 18) ["at"]) id (tCons (tVar 0) tNil) (fun _ _ _ => False)) (tCons (tMkEK (c 19) (List.length (α := Str) ["line"]) (spIni K (c 19) ["line"]) id (tCons (tVar 0) tNil) (fun _ _ _ => False)) (tCons (tMkEK (c 20) (List.length (α := Str) ["name"]) (spIni K (c 20) ["name"]) id (tCons (tVar 0) tNil) (fun _ _ _ => False)) tNil)))
def RN3 (K : PySem.W.Frag) (c : Nat → Addr) (d0 d1 : PyData) : List RV := [ErR K (c 18) ["at"] [d0], ErR K (c 19) ["line"] [d0], ErR K (c 20) ["name"] [d0]]
theorem mN3 {K : PySem.W.Frag} {c : Nat → Addr} {d0 d1 : PyData} : ∀ R ∈ RN3 K c d0 d1, Mono R := (mono_cons erR_mono (mono_cons erR_mono (mono_cons erR_mono mono_nil)))
theorem xN3 {K : PySem.W.Frag} {U : Wo} {M : Hp} {σ : L2.St} {c : Nat → Addr} {d0 d1 : PyData} {v0 v1 : V} (s0 : σ[0]? = some (some v0)) (s1 : σ[1]? = some (some v1)) (h0 : Dd K M v0 d0) (h1 : Dd K M v1 d1) (o0 : OddM d0) (o1 : OddM d1) : XE U M (tN3 K c) σ (IsL (RN3 K c d0 d1)) := by
  unfold tN3
  exact x_lst mN3 (xa_cons erR_mono (x_mkEK (fs := ["at"]) (ds := [d0]) (es := [d0]) (a1_cons (e1_var s0 h0) a1_nil) rfl (fun _ _ z => z) rfl (odd1 o0)) (xa_cons erR_mono (x_mkEK (fs := ["line"]) (ds := [d0]) (es := [d0]) (a1_cons (e1_var s0 h0) a1_nil) rfl (fun _ _ z => z) rfl (odd1 o0)) (xa_cons erR_mono (x_mkEK (fs := ["name"]) (ds := [d0]) (es := [d0]) (a1_cons (e1_var s0 h0) a1_nil) rfl (fun _ _ z => z) rfl (odd1 o0)) xa_nil))) (show 3 ≤ 100000 by decide)
/-- an error of each class -/
def eachR (K : PySem.W.Frag) (c : Nat → Addr) (d0 d1 : PyData) : List RV := ((((RE0 K c d0 d1 ++ RE1 K c d0 d1) ++ RE2 K c d0 d1) ++ RE3 K c d0 d1) ++ RE4 K c d0 d1)
/-- those that keep something -/
def keptR (K : PySem.W.Frag) (c : Nat → Addr) (d0 d1 : PyData) : List RV := (((RN0 K c d0 d1 ++ RN1 K c d0 d1) ++ RN2 K c d0 d1) ++ RN3 K c d0 d1)
theorem each_mono {K : PySem.W.Frag} {c : Nat → Addr} {d0 d1 : PyData} : ∀ R ∈ eachR K c d0 d1, Mono R := mono_app (mono_app (mono_app (mono_app mE0 mE1) mE2) mE3) mE4
theorem kept_mono {K : PySem.W.Frag} {c : Nat → Addr} {d0 d1 : PyData} : ∀ R ∈ keptR K c d0 d1, Mono R := mono_app (mono_app (mono_app mN0 mN1) mN2) mN3
/-- a def that yields such a list -/
def spL (K : PySem.W.Frag) (Rs : PyData → PyData → List RV) : Sp := fun vs H Q _ => ∃ (U : Wo) (n : Nat) (d0 d1 : PyData), U.ok n H ∧ DdAll K (U.view H) vs [d0, d1] ∧ OddM d0 ∧ OddM d1 ∧ ∀ v H', U.ok n H' → Same (U.view H) (U.view H') → IsL (Rs d0 d1) (U.view H') v → Q v H'
theorem spL_len {K : PySem.W.Frag} {Rs : PyData → PyData → List RV} {vs : List V} {H : Hp} {Q : VK} {E : XK} (h : spL K Rs vs H Q E) : vs.length = 2 := by
  obtain ⟨_, _, _, _, _, hd, _⟩ := h
  rw [hd.len] <;> rfl
end Mw
namespace Mw
open PySem PySem.Spec PyProof.Rows L2
section
variable {P : Program} {w : World} {K : PySem.W.Frag} {mg : Str → Option Value} {base : Heap} {W : Addr} {c : Nat → Addr}
theorem ok_each {f : Addr} {fd : FuncData} (F : Fun K "_law_each" "_law_each" s__law_each f fd) (C : Cls P w K mg base W c) : FnG P w K mg base 7 f fd ["matter", "more"] (spL K (eachR K c)) := by
  refine fnG F sc__law_each (fun vs H Q E h => spL_len h) (fun cdv A outer s H vs Q E hr h => ?_)
  obtain ⟨U, n, d0, d1, ok, hd, od0, od1, q⟩ := h
  obtain ⟨v0, v1, rfl, h0, h1⟩ := dd2 hd
  refine ⟨_, pss_cons (ps_set (i := 2) sc__law_each.nd rfl (.inl rfl) (by
    unfold tE0
    as_aux_lemma => exact (pe_lst (pa_cons (pe_mkS C.e0) (pa_cons (pe_mkS C.e1) (pa_cons (pe_mkS C.e2) (pa_cons (pe_mkC C.e3 hr (pa_cons (pv 0) (pa_cons (pv 1) pa_nil))) pa_nil))))) : PE _ _ (tE0 K c))) (pss_cons (ps_set (i := 2) sc__law_each.nd rfl (.inl rfl) (pe_op op_cat (pv 2) (by
    unfold tE1
    as_aux_lemma => exact (pe_lst (pa_cons (pe_mkC C.e4 hr (pa_cons (pv 0) pa_nil)) (pa_cons (pe_mkS C.e5) (pa_cons (pe_mkC C.e6 hr (pa_cons (pv 0) pa_nil)) (pa_cons (pe_mkC C.e7 hr (pa_cons (pv 0) pa_nil)) (pa_cons (pe_mkC C.e8 hr (pa_cons (pv 0) pa_nil)) pa_nil)))))) : PE _ _ (tE1 K c)))) (pss_cons (ps_set (i := 2) sc__law_each.nd rfl (.inl rfl) (pe_op op_cat (pv 2) (by
    unfold tE2
    as_aux_lemma => exact (pe_lst (pa_cons (pe_mkC C.e9 hr (pa_cons (pv 0) pa_nil)) (pa_cons (pe_mkC C.e10 hr (pa_cons (pv 0) pa_nil)) (pa_cons (pe_mkC C.e11 hr (pa_cons (pv 0) pa_nil)) (pa_cons (pe_mkC C.e12 hr (pa_cons (pv 0) pa_nil)) (pa_cons (pe_mkS C.e13) pa_nil)))))) : PE _ _ (tE2 K c)))) (pss_cons (ps_set (i := 2) sc__law_each.nd rfl (.inl rfl) (pe_op op_cat (pv 2) (by
    unfold tE3
    as_aux_lemma => exact (pe_lst (pa_cons (pe_mkC C.e14 hr (pa_cons (pv 0) pa_nil)) (pa_cons (pe_mkC C.e15 hr (pa_cons (pv 0) pa_nil)) (pa_cons (pe_mkC C.e16 hr (pa_cons (pv 0) pa_nil)) (pa_cons (pe_mkS C.e17) (pa_cons (pe_mkC C.e18 hr (pa_cons (pv 0) pa_nil)) pa_nil)))))) : PE _ _ (tE3 K c)))) (pss_one (ps_ret (pe_op op_cat (pv 2) (by
    unfold tE4
    as_aux_lemma => exact (pe_lst (pa_cons (pe_mkC C.e19 hr (pa_cons (pv 0) pa_nil)) (pa_cons (pe_mkC C.e20 hr (pa_cons (pv 0) pa_nil)) pa_nil))) : PE _ _ (tE4 K c)))))))), ?_⟩
  refine rd_seq ?_
  refine x_asg (R := IsL (RE0 K c d0 d1)) (At.here ok) (xE0 rfl rfl h0 h1 od0 od1) fun x0 H1 a1 s1 r1 => ?_
  dsimp only
  refine rd_seq ?_
  refine x_asg (R := IsL (RE0 K c d0 d1 ++ RE1 K c d0 d1)) a1 (x_cat mE0 mE1 (x_var (isL_mono mE0) rfl r1) (xE1 rfl rfl (h0.same s1) (h1.same s1) od0 od1) (show 4 + 5 ≤ 100000 by decide)) fun x1 H2 a2 s2 r2 => ?_
  dsimp only
  refine rd_seq ?_
  refine x_asg (R := IsL ((RE0 K c d0 d1 ++ RE1 K c d0 d1) ++ RE2 K c d0 d1)) a2 (x_cat (mono_app mE0 mE1) mE2 (x_var (isL_mono (mono_app mE0 mE1)) rfl r2) (xE2 rfl rfl (h0.same (s1.trans s2)) (h1.same (s1.trans s2)) od0 od1) (show 9 + 5 ≤ 100000 by decide)) fun x2 H3 a3 s3 r3 => ?_
  dsimp only
  refine rd_seq ?_
  refine x_asg (R := IsL (((RE0 K c d0 d1 ++ RE1 K c d0 d1) ++ RE2 K c d0 d1) ++ RE3 K c d0 d1)) a3 (x_cat (mono_app (mono_app mE0 mE1) mE2) mE3 (x_var (isL_mono (mono_app (mono_app mE0 mE1) mE2)) rfl r3) (xE3 rfl rfl (h0.same ((s1.trans s2).trans s3)) (h1.same ((s1.trans s2).trans s3)) od0 od1) (show 14 + 5 ≤ 100000 by decide)) fun x3 H4 a4 s4 r4 => ?_
  dsimp only
  exact x_ret a4 (x_cat (mono_app (mono_app (mono_app mE0 mE1) mE2) mE3) mE4 (x_var (isL_mono (mono_app (mono_app (mono_app mE0 mE1) mE2) mE3)) rfl r4) (xE4 rfl rfl (h0.same (((s1.trans s2).trans s3).trans s4)) (h1.same (((s1.trans s2).trans s3).trans s4)) od0 od1) (show 19 + 2 ≤ 100000 by decide)) fun y H9 ok9 s9 r9 => q y H9 ok9 ((((s1.trans s2).trans s3).trans s4).trans s9) r9
end
end Mw
namespace Mw
open PySem PySem.Spec PyProof.Rows L2
section
variable {P : Program} {w : World} {K : PySem.W.Frag} {mg : Str → Option Value} {base : Heap} {W : Addr} {c : Nat → Addr}
theorem ok_by_name {f : Addr} {fd : FuncData} (F : Fun K "_law_by_name" "_law_by_name" s__law_by_name f fd) (C : Cls P w K mg base W c) : FnG P w K mg base 7 f fd ["matter", "more"] (spL K (keptR K c)) := by
  refine fnG F sc__law_by_name (fun vs H Q E h => spL_len h) (fun cdv A outer s H vs Q E hr h => ?_)
  obtain ⟨U, n, d0, d1, ok, hd, od0, od1, q⟩ := h
  obtain ⟨v0, v1, rfl, h0, h1⟩ := dd2 hd
  refine ⟨_, pss_cons (ps_set (i := 2) sc__law_by_name.nd rfl (.inl rfl) (by
    unfold tN0
    as_aux_lemma => exact (pe_lst (pa_cons (pe_mkCK C.e3 hr (pk_cons (pv 1) (pk_cons (pv 0) pk_nil))) (pa_cons (pe_mkCK C.e4 hr (pk_cons (pv 0) pk_nil)) (pa_cons (pe_mkCK C.e6 hr (pk_cons (pv 0) pk_nil)) (pa_cons (pe_mkCK C.e7 hr (pk_cons (pv 0) pk_nil)) pa_nil))))) : PE _ _ (tN0 K c))) (pss_cons (ps_set (i := 2) sc__law_by_name.nd rfl (.inl rfl) (pe_op op_cat (pv 2) (by
    unfold tN1
    as_aux_lemma => exact (pe_lst (pa_cons (pe_mkCK C.e8 hr (pk_cons (pv 0) pk_nil)) (pa_cons (pe_mkCK C.e9 hr (pk_cons (pv 0) pk_nil)) (pa_cons (pe_mkCK C.e10 hr (pk_cons (pv 0) pk_nil)) (pa_cons (pe_mkCK C.e11 hr (pk_cons (pv 0) pk_nil)) pa_nil))))) : PE _ _ (tN1 K c)))) (pss_cons (ps_set (i := 2) sc__law_by_name.nd rfl (.inl rfl) (pe_op op_cat (pv 2) (by
    unfold tN2
    as_aux_lemma => exact (pe_lst (pa_cons (pe_mkCK C.e12 hr (pk_cons (pv 0) pk_nil)) (pa_cons (pe_mkCK C.e14 hr (pk_cons (pv 0) pk_nil)) (pa_cons (pe_mkCK C.e15 hr (pk_cons (pv 0) pk_nil)) (pa_cons (pe_mkCK C.e16 hr (pk_cons (pv 0) pk_nil)) pa_nil))))) : PE _ _ (tN2 K c)))) (pss_one (ps_ret (pe_op op_cat (pv 2) (by
    unfold tN3
    as_aux_lemma => exact (pe_lst (pa_cons (pe_mkCK C.e18 hr (pk_cons (pv 0) pk_nil)) (pa_cons (pe_mkCK C.e19 hr (pk_cons (pv 0) pk_nil)) (pa_cons (pe_mkCK C.e20 hr (pk_cons (pv 0) pk_nil)) pa_nil)))) : PE _ _ (tN3 K c))))))), ?_⟩
  refine rd_seq ?_
  refine x_asg (R := IsL (RN0 K c d0 d1)) (At.here ok) (xN0 rfl rfl h0 h1 od0 od1) fun x0 H1 a1 s1 r1 => ?_
  dsimp only
  refine rd_seq ?_
  refine x_asg (R := IsL (RN0 K c d0 d1 ++ RN1 K c d0 d1)) a1 (x_cat mN0 mN1 (x_var (isL_mono mN0) rfl r1) (xN1 rfl rfl (h0.same s1) (h1.same s1) od0 od1) (show 4 + 4 ≤ 100000 by decide)) fun x1 H2 a2 s2 r2 => ?_
  dsimp only
  refine rd_seq ?_
  refine x_asg (R := IsL ((RN0 K c d0 d1 ++ RN1 K c d0 d1) ++ RN2 K c d0 d1)) a2 (x_cat (mono_app mN0 mN1) mN2 (x_var (isL_mono (mono_app mN0 mN1)) rfl r2) (xN2 rfl rfl (h0.same (s1.trans s2)) (h1.same (s1.trans s2)) od0 od1) (show 8 + 4 ≤ 100000 by decide)) fun x2 H3 a3 s3 r3 => ?_
  dsimp only
  exact x_ret a3 (x_cat (mono_app (mono_app mN0 mN1) mN2) mN3 (x_var (isL_mono (mono_app (mono_app mN0 mN1) mN2)) rfl r3) (xN3 rfl rfl (h0.same ((s1.trans s2).trans s3)) (h1.same ((s1.trans s2).trans s3)) od0 od1) (show 12 + 3 ≤ 100000 by decide)) fun y H9 ok9 s9 r9 => q y H9 ok9 (((s1.trans s2).trans s3).trans s9) r9
end
end Mw
namespace Mw
open PySem PySem.Spec PyProof.Rows L2
section
variable {K : PySem.W.Frag} {U : Wo} {M : Hp} {σ : L2.St} {n : Nat} {te tj : TE} {R : RV} {Rs : List RV} {D : Ends} {H : Hp} {d : PyData}
/-- xs[j], j any expression -/
theorem x_ixE {j : Nat} (mR : Mono R) (m : ∀ R ∈ Rs, Mono R) (h : XE U M te σ (IsL Rs)) (hi : E1 K U M tj σ (.int j)) (hj : Rs[j]? = some R) : XE U M (tOp (rIxL K) te tj) σ R := fun n H a Q q =>
  h n H a _ fun v H1 ok1 s1 ⟨p, xs, e, hp, r1⟩ => by
    subst e
    refine hi n H1 (a.step ok1 s1) _ fun u H2 ok2 s2 du => ?_
    cases du
    obtain ⟨v, hv, rv⟩ := r1.at hj
    exact ⟨p, xs, j, v, rfl, rfl, .inl (.inl (U.le _ _ _ (s2 _ _ hp))), atI_nat hv, q v H2 ok2 (s1.trans s2) (mR _ _ _ s2 rv)⟩
/-- [e for j in numbers], each such a thing -/
theorem x_lc {wi : TI} {j : Nat} {vs : List Nat} {js : List Nat} {f : Nat → RV} (m : ∀ i, Mono (f i)) (h : I1 K U M wi σ (js.map fun i => .int (i : Nat))) (z : js.length ≤ 100000) (hw : ∀ x, wipe ((wipe σ vs).set j (some x)) vs = wipe σ vs)
    (he : ∀ (U' : Wo) M' v i, Same M M' → i ∈ js → Dd K M' v (.int (i : Nat)) → XE U' M' te ((wipe σ vs).set j (some v)) (f i)) :
    XE U M (tLc wi (gName j) tYes te vs) σ (IsL (js.map f)) := fun n H a Q q => h n H a _ fun J H1 ok1 s1 w => by
  intro D nD
  have lj : (js.map fun i => (PyData.int (i : Nat))).length = js.length := List.length_map ..
  have a1 : At U n M H1 := a.step ok1 s1
  have nD0 : U.view H1 D = none := by
    cases e : U.view H1 D with
    | none => rfl
    | some o =>
      rw [U.le _ _ _ e] at nD
      cases nD
  have off : Same (U.view H1) (hideV D (U.view H1)) := fun b o e => hide_at e (fun q => by
    rw [q, nD0] at e
    cases e)
  refine lc_it w (fun i H' => U.ok n H' ∧ Same (U.view H1) (hideV D (U.view H')) ∧ ∃ acc, U.view H' D = some (.lst acc) ∧ AllR (hideV D (U.view H')) ((js.take i).map f) acc) ?_ (fun i H' _ z => z.2.1.trans (hide_le _ _)) ?_ ?_
  · obtain ⟨ok2, s2, f2, _⟩ := U.new (o := .lst []) ok1 nD rfl
    exact ⟨ok2, off.trans (hide_same s2), [], f2, .nil⟩
  · rintro i x H2 H3 hi ⟨ok2, s2, acc, f2, da⟩ ⟨rfl, d, hd, dx⟩
    rw [List.getElem?_map] at hd
    obtain ⟨k, hk, rfl⟩ := Option.map_eq_some_iff.mp hd
    have hm : k ∈ js := List.mem_of_getElem? hk
    refine ⟨hw x, rd_yes (iteT ?_)⟩
    refine he (U.hide D (.lst acc)) (U.view H1) x k (a1.up) hm dx n _ ⟨⟨ok2, f2⟩, s2⟩ _ fun y H5 ok5 s5 dy => ?_
    have hl : acc.length ≤ 100000 := by
      rw [da.len, List.length_map, List.length_take]
      exact Nat.le_trans (Nat.min_le_right _ _) z
    refine ⟨acc, U.le _ _ _ ok5.2, Nat.lt_of_le_of_lt hl (by decide), ?_⟩
    obtain ⟨ok6, f6, o6⟩ := U.own (o := .lst (acc ++ [y])) ok5.1 ok5.2 rfl
    have k6 : Same (hideV D (U.view H5)) (hideV D (U.view (upd H5 D (.lst (acc ++ [y]))))) := fun b u e => hide_at (o6 b u (hide_of e).1 (hide_of e).2) (hide_of e).1
    have s5' : Same (hideV D (U.view H3)) (hideV D (U.view H5)) := s5
    refine ⟨ok6, (s2.trans s5').trans k6, _, f6, ?_⟩
    have st : (js.take (i + 1)).map f = (js.take i).map f ++ [f k] := by
      rw [List.take_add_one, hk, List.map_append]
      rfl
    rw [st]
    exact (da.same (s5'.trans k6) (fun R hR => by
      obtain ⟨b, _, rfl⟩ := List.mem_map.mp hR
      exact m b)).app (.cons (m k _ _ _ k6 dy) .nil)
  · rintro H2 ⟨ok2, s2, acc, f2, da⟩
    rw [lj, List.take_length] at da
    exact q _ _ ok2 (s1.trans (s2.trans (hide_le _ _))) ⟨D, acc, rfl, f2, da.same (hide_le _ _) (fun R hR => by
      obtain ⟨b, _, rfl⟩ := List.mem_map.mp hR
      exact m b)⟩
/-- for i, x in enumerate(things) -/
theorem x_forE {i j : Nat} {tb : TS} (m : ∀ R ∈ Rs, Mono R) (a : At U n M H) (h : XE U M te σ (IsL Rs)) (Pv : Nat → L2.St → Prop) (h0 : Pv 0 σ)
    (hs : ∀ k σ' H' v R (N : L2.St → Hp → Prop), Rs[k]? = some R → Pv k σ' → At U n M H' → Same (U.view H) (U.view H') → R (U.view H') v → (∀ σ2 H2, Pv (k + 1) σ2 → At U n M H2 → Same (U.view H') (U.view H2) → N σ2 H2) →
      tb { D with nx := N, ct := N, bk := D.nx } ((σ'.set i (some (.int (k : Nat)))).set j (some v)) H')
    (hd : ∀ σ' H', Pv Rs.length σ' → At U n M H' → Same (U.view H) (U.view H') → D.nx σ' H') : tFor (iEnum K (tCons te tNil)) (gTup K 2 (gCons (gName i) (gCons (gName j) gNil))) tb D σ H :=
  h n H a _ fun v H1 ok1 s1 ⟨p, xs, e, hp, r1⟩ => by
    subst e
    have l := r1.len
    refine ⟨p, xs, rfl, .inl (.inl (U.le _ _ _ hp)), ?_⟩
    refine for_it walk_enum (fun k σ' H' => Pv k σ' ∧ At U n M H' ∧ Same (U.view H1) (U.view H')) ⟨h0, a.step ok1 s1, Same.refl _⟩ (fun k σ' H' _ z => .inl (.inl (U.le _ _ _ (z.2.2 _ _ hp)))) ?_ ?_
    · rintro k x σ' H2 H3 hk ⟨pv, a2, s2⟩ ⟨T, y, z, rfl, nT, rfl, ey, ez⟩
      cases ey
      obtain ⟨ok3, s3, f3, _⟩ := U.new (o := .tup [.int (k : Nat), z]) a2.ok nT rfl
      have hk' : k < Rs.length := by omega
      obtain ⟨v', hv', rv⟩ := r1.at (List.getElem?_eq_getElem hk')
      have ez : xs[k]? = some z := ez
      rw [ez] at hv'
      cases hv'
      have mR : Mono Rs[k] := m _ (List.getElem_mem hk')
      refine ⟨T, _, rfl, .inl (.inl (U.le _ _ _ f3)), rfl, .int (k : Nat), [z], rfl, z, [], rfl, rfl, ?_⟩
      exact hs k σ' _ z _ _ (List.getElem?_eq_getElem hk') pv (a2.step ok3 s3) (s1.trans (s2.trans s3)) (mR _ _ _ (s2.trans s3) rv) fun σ2 H4 p2 a4 s4 => ⟨p2, a4, (s2.trans s3).trans s4⟩
    · rintro σ' H2 ⟨pv, a2, s2⟩
      rw [l] at pv
      exact hd _ _ pv a2 (s1.trans s2)
end
/-! isinstance of an error, whatever it keeps -/
/-- an error of this class -/
def ErA (K : PySem.W.Frag) (C : Addr) : RV := fun X v => (∃ fs ds, ErR K C fs ds X v) ∨ ∃ m, EsR C m X v
theorem erA_mono {K : PySem.W.Frag} {C : Addr} : Mono (ErA K C) := fun V1 V2 v e h => h.elim (fun ⟨fs, ds, z⟩ => .inl ⟨fs, ds, erR_mono _ _ _ e z⟩) (fun ⟨m, z⟩ => .inr ⟨m, esR_mono _ _ _ e z⟩)
def rIsEa (K : PySem.W.Frag) : List V → Hp → VK → Prop := fun xs H Q => rIsEr K xs H Q ∨ rIsEs K xs H Q
theorem call_isEa {X : Cx} : CallR X (.builtin "isinstance") (rIsEa X.K) := by
  intro pins s σ H xs us Q I r h
  rcases h with h | h
  · exact call_isEr pins s σ H xs us Q I r h
  · exact call_isEs pins s σ H xs us Q I r h
section
variable {K : PySem.W.Frag} {U : Wo} {M : Hp} {σ : L2.St} {te : TE} {D : Addr} {b : Bool}
/-- isinstance(e, c) -/
theorem e1_isEa {c : V} {cv : Value} (h : XE U M te σ (ErA K D)) (x : ExcC K D) (hc : ∀ u, RelV c u → u = cv) (e : PySem.W.kitOne K (.ref D) cv = some b) : E1 K U M (tCB (rIsEa K) (tCons te (tCons (tC c) tNil))) σ (.bool b) := fun n H a Q q =>
  h n H a _ fun v H1 ok1 s1 r1 => by
    rcases r1 with ⟨fs, ds, p, dx, ys, rfl, h1, h2, h3⟩ | ⟨m, p, t, rfl, h1, h2⟩
    · exact .inl ⟨p, D, some dx, c, cv, b, rfl, U.le _ _ _ h1, fun d hd => by
        cases hd
        exact ⟨_, U.le _ _ _ h2⟩, x, hc, e, q _ H1 ok1 s1 (.bl b)⟩
    · exact .inr ⟨p, D, t, c, cv, b, rfl, U.le _ _ _ h1, x, hc, e, q _ H1 ok1 s1 (.bl b)⟩
end
/-- str(err) of such an error with a text -/
def rStrEs (K : PySem.W.Frag) : List V → Hp → VK → Prop := fun xs H Q => ∃ (a C t : Addr) (m : Str), xs = [.ref a] ∧ H a = some (exs a C t) ∧ H t = some (.tup [.str m]) ∧ PySem.W.findIn K (.ref C) "__str__" = some (some (.builtin "BaseException.__str__")) ∧ PySem.W.subIn K (.ref C) (.type "BaseException") = some true ∧ Q (.str m) H
theorem call_strEs {X : Cx} (hu : X.A.units + 2 < cLine) : CallR X (.type "str") (rStrEs X.K) := by
  intro pins s σ H xs us Q I r h
  obtain ⟨a, C, t, m, rfl, ha, ht, hs, hB, q⟩ := h
  cases r with
  | cons r1 rr =>
    cases rr
    cases r1
    exact str_exs I hu ha ht hs hB q
theorem e1_strEs {K : PySem.W.Frag} {U : Wo} {M : Hp} {σ : L2.St} {te : TE} {C : Addr} {m : Str} (h : XE U M te σ (EsR C m)) (hs : PySem.W.findIn K (.ref C) "__str__" = some (some (.builtin "BaseException.__str__"))) (hB : PySem.W.subIn K (.ref C) (.type "BaseException") = some true) :
    E1 K U M (tCB (rStrEs K) (tCons te tNil)) σ (.str m) := fun n H a Q q =>
  h n H a _ fun v H1 ok1 s1 ⟨p, t, e, h1, h2⟩ => by
    subst e
    exact ⟨p, C, t, m, rfl, U.le _ _ _ h1, U.le _ _ _ h2, hs, hB, q _ H1 ok1 s1 (.str m)⟩
end Mw
namespace Mw
open PySem PySem.Spec PyProof.Rows L2

/-- a def of one thing that yields another -/
def spV (R S : PyData → PyData → RV) : Sp := fun vs H Q _ => ∃ (U : Wo) (n : Nat) (d0 d1 : PyData) (v : V), vs = [v] ∧ U.ok n H ∧ R d0 d1 (U.view H) v ∧ ∀ v H', U.ok n H' → Same (U.view H) (U.view H') → S d0 d1 (U.view H') v → Q v H'
theorem spV_len {R S : PyData → PyData → RV} {vs : List V} {H : Hp} {Q : VK} {E : XK} (h : spV R S vs H Q E) : vs.length = 1 := by
  obtain ⟨_, _, _, _, _, rfl, _⟩ := h
  rfl
theorem x_go {U : Wo} {M : Hp} {σ : L2.St} {te : TE} {R S : PyData → PyData → RV} {d0 d1 : PyData} (h : XE U M te σ (R d0 d1)) : XE U M (tGo (spV R S) (tCons te tNil)) σ (S d0 d1) := fun n H a Q q =>
  h n H a _ fun v H1 ok1 s1 r1 => ⟨U, n, d0, d1, v, rfl, ok1, r1, fun u H2 ok2 s2 r2 => q u H2 ok2 (s1.trans s2) r2⟩
theorem x_goL {K : PySem.W.Frag} {U : Wo} {M : Hp} {σ : L2.St} {t : TA} {Rs : PyData → PyData → List RV} {d0 d1 : PyData} (h : A1 K U M t σ [d0, d1]) (o0 : OddM d0) (o1 : OddM d1) : XE U M (tGo (spL K Rs) t) σ (IsL (Rs d0 d1)) := fun n H a Q q =>
  h n H a _ fun vs H1 ok1 s1 dd => ⟨U, n, d0, d1, ok1, dd, o0, o1, fun u H2 ok2 s2 r2 => q u H2 ok2 (s1.trans s2) r2⟩
/-- what all of them keep -/
def keptD (d0 d1 : PyData) : PyData := .list (([d1] ++ ([d0, d0, d0, d0, d0, d0, d0] ++ [d0, d0, d0, d0, d0, d0, d0])) ++ [d0])
abbrev spKeep (K : PySem.W.Frag) (c : Nat → Addr) : Sp := spV (fun d0 d1 => IsL (eachR K c d0 d1)) (fun d0 d1 => IsL (keptR K c d0 d1))
abbrev spKept (K : PySem.W.Frag) (c : Nat → Addr) : Sp := spV (fun d0 d1 => IsL (keptR K c d0 d1)) (fun d0 d1 X v => Dd K X v (keptD d0 d1))
def kpI : List Nat := [3, 4, 6, 7, 8, 9, 10, 11, 12, 14, 15, 16, 18, 19, 20]
theorem look1 {f : Str} (ys : List V) (h : ys.length = 1) : ∃ y, ys[0]? = some y ∧ (([f].zip ys).reverse).lookup f = some y := by
  match ys, h with
  | [y], _ => exact ⟨y, rfl, by simp⟩
theorem look2a {f g : Str} (ne : (f == g) = false) (ys : List V) (h : ys.length = 2) : ∃ y, ys[0]? = some y ∧ (([f, g].zip ys).reverse).lookup f = some y := by
  match ys, h with
  | [y, z], _ => exact ⟨y, rfl, by simp [List.lookup, ne]⟩
theorem look2b {f g : Str} (ys : List V) (h : ys.length = 2) : ∃ y, ys[1]? = some y ∧ (([f, g].zip ys).reverse).lookup g = some y := by
  match ys, h with
  | [y, z], _ => exact ⟨z, rfl, by simp [List.lookup]⟩
section
variable {P : Program} {w : World} {K : PySem.W.Frag} {mg : Str → Option Value} {base : Heap} {W : Addr} {c : Nat → Addr}
theorem ok_keeping {f : Addr} {fd : FuncData} (F : Fun K "_law_keeping" "_law_keeping" s__law_keeping f fd) : FnG P w K mg base 1 f fd ["some"] (spKeep K c) := by
  refine fnG F sc__law_keeping (fun vs H Q E h => spV_len h) (fun cdv A outer s H vs Q E hr h => ?_)
  obtain ⟨U, n, d0, d1, v, rfl, ok, r, q⟩ := h
  refine ⟨_, pss_one (ps_ret (pe_lc (own := [("spot", 1)]) (g := gName 1) (tt := tYes) (te := tOp (rIxL K) (tVar 0) (tVar 1)) rfl sc__law_keeping.nd (pi_list (pe_lst (pa_cons pe_int (pa_cons pe_int (pa_cons pe_int (pa_cons pe_int (pa_cons pe_int (pa_cons pe_int (pa_cons pe_int (pa_cons pe_int (pa_cons pe_int (pa_cons pe_int (pa_cons pe_int (pa_cons pe_int (pa_cons pe_int (pa_cons pe_int (pa_cons pe_int pa_nil))))))))))))))))) (blkOk_by (N := ["some", "spot"]) (sc := defScope s__law_keeping) (by decide +kernel)) (fun _ _ _ _ _ => (pg_name (i := 1) sc__law_keeping.nd rfl (.inl rfl))) (fun _ _ _ _ _ => pts_nil) (fun _ _ _ _ _ => (pe_ix ix_list (pv 0) (pv 1) (fun _ _ => rfl))))), ?_⟩
  have mf : ∀ i : Nat, Mono (((eachR K c d0 d1)[i]?).getD (EsR 0 "")) := fun i => by
    cases e : (eachR K c d0 d1)[i]? with
    | none => exact esR_mono
    | some R => exact each_mono R (List.mem_of_getElem? e)
  refine x_ret (R := IsL (kpI.map fun i => ((eachR K c d0 d1)[i]?).getD (EsR 0 ""))) (At.here ok) (x_lc (js := kpI) mf (i1_list (e1_lst (a1_cons e1_int (a1_cons e1_int (a1_cons e1_int (a1_cons e1_int (a1_cons e1_int (a1_cons e1_int (a1_cons e1_int (a1_cons e1_int (a1_cons e1_int (a1_cons e1_int (a1_cons e1_int (a1_cons e1_int (a1_cons e1_int (a1_cons e1_int (a1_cons e1_int a1_nil))))))))))))))) (show 15 ≤ 100000 by decide))) (show 15 ≤ 100000 by decide) (fun x => rfl) ?_) fun y H1 ok1 s1 r1 => q y H1 ok1 s1 r1
  intro U' M' v' i e hi dv
  have hl : i < 21 := (show ∀ i ∈ kpI, i < 21 by decide) i hi
  have hj : (eachR K c d0 d1)[i]? = some (((eachR K c d0 d1)[i]?).getD (EsR 0 "")) := by
    cases e : (eachR K c d0 d1)[i]? with
    | none => exact absurd (List.getElem?_eq_none_iff.mp e) (by show ¬ 21 ≤ i; omega)
    | some R => rfl
  exact x_ixE (mf i) each_mono (x_var (isL_mono each_mono) rfl (isL_mono each_mono _ _ _ e r)) (e1_var rfl dv) hj
@[irreducible] def tK0 (K : PySem.W.Frag) : TE := tLst (tCons (tErF K "what" (tOp (rIxL K) (tVar 0) (tC (.int 0)))) (tCons (tErF K "part" (tOp (rIxL K) (tVar 0) (tC (.int 1)))) (tCons (tErF K "part" (tOp (rIxL K) (tVar 0) (tC (.int 2)))) (tCons (tErF K "packet" (tOp (rIxL K) (tVar 0) (tC (.int 3)))) (tCons (tErF K "most" (tOp (rIxL K) (tVar 0) (tC (.int 4)))) (tCons (tErF K "place" (tOp (rIxL K) (tVar 0) (tC (.int 5)))) (tCons (tErF K "word" (tOp (rIxL K) (tVar 0) (tC (.int 6)))) tNil)))))))
theorem xK0 {U : Wo} {M : Hp} {d0 d1 : PyData} {v : V} {x : Option V} (C : Cls P w K mg base W c) (r : IsL (keptR K c d0 d1) M v) : E1 K U M (tK0 K) [some v, x] (.list [d0, d0, d0, d0, d0, d0, d0]) := by
  unfold tK0
  exact e1_lst (a1_cons (e1_erF (fs := ["what", "most"]) (ds := [d0, d1]) (i := 0) (x_ix (j := 0) erR_mono (x_var (isL_mono kept_mono) rfl r) rfl) (C.f 3 (by decide)) C.n3_what (look2a (f := "what") (g := "most") (by decide)) rfl) (a1_cons (e1_erF (fs := ["part"]) (ds := [d0]) (i := 0) (x_ix (j := 1) erR_mono (x_var (isL_mono kept_mono) rfl r) rfl) (C.f 4 (by decide)) C.n4_part (look1 (f := "part")) rfl) (a1_cons (e1_erF (fs := ["part"]) (ds := [d0]) (i := 0) (x_ix (j := 2) erR_mono (x_var (isL_mono kept_mono) rfl r) rfl) (C.f 6 (by decide)) C.n6_part (look1 (f := "part")) rfl) (a1_cons (e1_erF (fs := ["packet"]) (ds := [d0]) (i := 0) (x_ix (j := 3) erR_mono (x_var (isL_mono kept_mono) rfl r) rfl) (C.f 7 (by decide)) C.n7_packet (look1 (f := "packet")) rfl) (a1_cons (e1_erF (fs := ["most"]) (ds := [d0]) (i := 0) (x_ix (j := 4) erR_mono (x_var (isL_mono kept_mono) rfl r) rfl) (C.f 8 (by decide)) C.n8_most (look1 (f := "most")) rfl) (a1_cons (e1_erF (fs := ["place"]) (ds := [d0]) (i := 0) (x_ix (j := 5) erR_mono (x_var (isL_mono kept_mono) rfl r) rfl) (C.f 9 (by decide)) C.n9_place (look1 (f := "place")) rfl) (a1_cons (e1_erF (fs := ["word"]) (ds := [d0]) (i := 0) (x_ix (j := 6) erR_mono (x_var (isL_mono kept_mono) rfl r) rfl) (C.f 10 (by decide)) C.n10_word (look1 (f := "word")) rfl) a1_nil))))))) (by simp)
@[irreducible] def tK1 (K : PySem.W.Frag) : TE := tLst (tCons (tErF K "at" (tOp (rIxL K) (tVar 0) (tC (.int 7)))) (tCons (tErF K "path" (tOp (rIxL K) (tVar 0) (tC (.int 8)))) (tCons (tErF K "part" (tOp (rIxL K) (tVar 0) (tC (.int 9)))) (tCons (tErF K "at" (tOp (rIxL K) (tVar 0) (tC (.int 10)))) (tCons (tErF K "deed" (tOp (rIxL K) (tVar 0) (tC (.int 11)))) (tCons (tErF K "at" (tOp (rIxL K) (tVar 0) (tC (.int 12)))) (tCons (tErF K "line" (tOp (rIxL K) (tVar 0) (tC (.int 13)))) tNil)))))))
theorem xK1 {U : Wo} {M : Hp} {d0 d1 : PyData} {v : V} {x : Option V} (C : Cls P w K mg base W c) (r : IsL (keptR K c d0 d1) M v) : E1 K U M (tK1 K) [some v, x] (.list [d0, d0, d0, d0, d0, d0, d0]) := by
  unfold tK1
  exact e1_lst (a1_cons (e1_erF (fs := ["at"]) (ds := [d0]) (i := 0) (x_ix (j := 7) erR_mono (x_var (isL_mono kept_mono) rfl r) rfl) (C.f 11 (by decide)) C.n11_at (look1 (f := "at")) rfl) (a1_cons (e1_erF (fs := ["path"]) (ds := [d0]) (i := 0) (x_ix (j := 8) erR_mono (x_var (isL_mono kept_mono) rfl r) rfl) (C.f 12 (by decide)) C.n12_path (look1 (f := "path")) rfl) (a1_cons (e1_erF (fs := ["part"]) (ds := [d0]) (i := 0) (x_ix (j := 9) erR_mono (x_var (isL_mono kept_mono) rfl r) rfl) (C.f 14 (by decide)) C.n14_part (look1 (f := "part")) rfl) (a1_cons (e1_erF (fs := ["at"]) (ds := [d0]) (i := 0) (x_ix (j := 10) erR_mono (x_var (isL_mono kept_mono) rfl r) rfl) (C.f 15 (by decide)) C.n15_at (look1 (f := "at")) rfl) (a1_cons (e1_erF (fs := ["deed"]) (ds := [d0]) (i := 0) (x_ix (j := 11) erR_mono (x_var (isL_mono kept_mono) rfl r) rfl) (C.f 16 (by decide)) C.n16_deed (look1 (f := "deed")) rfl) (a1_cons (e1_erF (fs := ["at"]) (ds := [d0]) (i := 0) (x_ix (j := 12) erR_mono (x_var (isL_mono kept_mono) rfl r) rfl) (C.f 18 (by decide)) C.n18_at (look1 (f := "at")) rfl) (a1_cons (e1_erF (fs := ["line"]) (ds := [d0]) (i := 0) (x_ix (j := 13) erR_mono (x_var (isL_mono kept_mono) rfl r) rfl) (C.f 19 (by decide)) C.n19_line (look1 (f := "line")) rfl) a1_nil))))))) (by simp)
@[irreducible] def tK2 (K : PySem.W.Frag) : TE := tLst (tCons (tErF K "most" (tOp (rIxL K) (tVar 0) (tC (.int 0)))) tNil)
theorem xK2 {U : Wo} {M : Hp} {d0 d1 : PyData} {v : V} {x : Option V} (C : Cls P w K mg base W c) (r : IsL (keptR K c d0 d1) M v) : E1 K U M (tK2 K) [some v, x] (.list [d1]) := by
  unfold tK2
  exact e1_lst (a1_cons (e1_erF (fs := ["what", "most"]) (ds := [d0, d1]) (i := 1) (x_ix (j := 0) erR_mono (x_var (isL_mono kept_mono) rfl r) rfl) (C.f 3 (by decide)) C.n3_most (look2b (f := "what") (g := "most")) rfl) a1_nil) (by simp)
@[irreducible] def tK3 (K : PySem.W.Frag) : TE := tLst (tCons (tErF K "name" (tOp (rIxL K) (tVar 0) (tC (.int 14)))) tNil)
theorem xK3 {U : Wo} {M : Hp} {d0 d1 : PyData} {v : V} {x : Option V} (C : Cls P w K mg base W c) (r : IsL (keptR K c d0 d1) M v) : E1 K U M (tK3 K) [some v, x] (.list [d0]) := by
  unfold tK3
  exact e1_lst (a1_cons (e1_erF (fs := ["name"]) (ds := [d0]) (i := 0) (x_ix (j := 14) erR_mono (x_var (isL_mono kept_mono) rfl r) rfl) (C.f 20 (by decide)) C.n20_name (look1 (f := "name")) rfl) a1_nil) (by simp)
theorem ok_kept {f : Addr} {fd : FuncData} (F : Fun K "_law_kept" "_law_kept" s__law_kept f fd) (C : Cls P w K mg base W c) : FnG P w K mg base 1 f fd ["some"] (spKept K c) := by
  refine fnG F sc__law_kept (fun vs H Q E h => spV_len h) (fun cdv A outer s H vs Q E hr h => ?_)
  obtain ⟨U, n, d0, d1, v, rfl, ok, r, q⟩ := h
  refine ⟨_, pss_cons (ps_set (i := 1) sc__law_kept.nd rfl (.inl rfl) (by
    unfold tK0
    as_aux_lemma => exact (pe_lst (pa_cons (pe_erF (pe_ix ix_list (pv 0) pe_int (fun _ _ => rfl))) (pa_cons (pe_erF (pe_ix ix_list (pv 0) pe_int (fun _ _ => rfl))) (pa_cons (pe_erF (pe_ix ix_list (pv 0) pe_int (fun _ _ => rfl))) (pa_cons (pe_erF (pe_ix ix_list (pv 0) pe_int (fun _ _ => rfl))) (pa_cons (pe_erF (pe_ix ix_list (pv 0) pe_int (fun _ _ => rfl))) (pa_cons (pe_erF (pe_ix ix_list (pv 0) pe_int (fun _ _ => rfl))) (pa_cons (pe_erF (pe_ix ix_list (pv 0) pe_int (fun _ _ => rfl))) pa_nil)))))))) : PE _ _ (tK0 K)))
    (pss_cons (ps_set (i := 1) sc__law_kept.nd rfl (.inl rfl) (pe_op op_cat (pv 1) (by
    unfold tK1
    as_aux_lemma => exact (pe_lst (pa_cons (pe_erF (pe_ix ix_list (pv 0) pe_int (fun _ _ => rfl))) (pa_cons (pe_erF (pe_ix ix_list (pv 0) pe_int (fun _ _ => rfl))) (pa_cons (pe_erF (pe_ix ix_list (pv 0) pe_int (fun _ _ => rfl))) (pa_cons (pe_erF (pe_ix ix_list (pv 0) pe_int (fun _ _ => rfl))) (pa_cons (pe_erF (pe_ix ix_list (pv 0) pe_int (fun _ _ => rfl))) (pa_cons (pe_erF (pe_ix ix_list (pv 0) pe_int (fun _ _ => rfl))) (pa_cons (pe_erF (pe_ix ix_list (pv 0) pe_int (fun _ _ => rfl))) pa_nil)))))))) : PE _ _ (tK1 K))))
    (pss_one (ps_ret (pe_op op_cat (pe_op op_cat (by
    unfold tK2
    as_aux_lemma => exact (pe_lst (pa_cons (pe_erF (pe_ix ix_list (pv 0) pe_int (fun _ _ => rfl))) pa_nil)) : PE _ _ (tK2 K)) (pv 1)) (by
    unfold tK3
    as_aux_lemma => exact (pe_lst (pa_cons (pe_erF (pe_ix ix_list (pv 0) pe_int (fun _ _ => rfl))) pa_nil)) : PE _ _ (tK3 K)))))), ?_⟩
  refine rd_seq ?_
  refine s1_asg (K := K) (d := .list [d0, d0, d0, d0, d0, d0, d0]) (At.here ok) (xK0 C r) fun v1 H1 a1 s1 e1 => ?_
  refine rd_seq ?_
  have r1 := isL_mono kept_mono _ _ _ s1 r
  refine s1_asg (K := K) (d := .list ([d0, d0, d0, d0, d0, d0, d0] ++ [d0, d0, d0, d0, d0, d0, d0])) a1 (e1_op (e1_var rfl e1) (xK1 C r1) (r1_cat (show 7 + 7 ≤ 100000 by decide))) fun v2 H2 a2 s2 e2 => ?_
  have r2 := isL_mono kept_mono _ _ _ s2 r1
  exact s1_ret (K := K) (d := keptD d0 d1) a2 (e1_op (e1_op (xK2 C r2) (e1_var rfl e2) (r1_cat (show 1 + 14 ≤ 100000 by decide))) (xK3 C r2) (r1_cat (show 15 + 1 ≤ 100000 by decide))) fun y H3 a3 s3 e3 => q y H3 a3.ok ((s1.trans s2).trans s3) e3
end
end Mw
namespace Mw
open PySem PySem.Spec PyProof.Rows L2
section
variable {P : Program} {w : World} {K : PySem.W.Frag} {mg : Str → Option Value} {base : Heap} {W : Addr} {c : Nat → Addr}
@[irreducible] def tM0 (K : PySem.W.Frag) (c : Nat → Addr) : TE := tLst (tCons (tCB (rIsEa K) (tCons (tVar 0) (tCons (tC (.ref (c 0))) tNil))) (tCons (tCB (rIsEa K) (tCons (tVar 0) (tCons (tC (.ref (c 1))) tNil))) (tCons (tCB (rIsEa K) (tCons (tVar 0) (tCons (tC (.ref (c 2))) tNil))) tNil)))
theorem xM0 {U : Wo} {M : Hp} {D : Addr} {b : Nat → Bool} {v : V} {x : Option V} (hx : ExcC K D) (hk : ∀ k, k < 21 → PySem.W.kitOne K (.ref D) (.ref (c k)) = some (b k)) (r : ErA K D M v) : E1 K U M (tM0 K c) [some v, x] (.list [.bool (b 0), .bool (b 1), .bool (b 2)]) := by
  unfold tM0
  exact e1_lst (a1_cons (e1_isEa (x_var erA_mono rfl r) hx (fun _ z => z) (hk 0 (by decide))) (a1_cons (e1_isEa (x_var erA_mono rfl r) hx (fun _ z => z) (hk 1 (by decide))) (a1_cons (e1_isEa (x_var erA_mono rfl r) hx (fun _ z => z) (hk 2 (by decide))) a1_nil))) (show 3 ≤ 100000 by decide)
@[irreducible] def tM1 (K : PySem.W.Frag) (c : Nat → Addr) : TE := tLst (tCons (tCB (rIsEa K) (tCons (tVar 0) (tCons (tC (.ref (c 3))) tNil))) (tCons (tCB (rIsEa K) (tCons (tVar 0) (tCons (tC (.ref (c 4))) tNil))) (tCons (tCB (rIsEa K) (tCons (tVar 0) (tCons (tC (.ref (c 5))) tNil))) tNil)))
theorem xM1 {U : Wo} {M : Hp} {D : Addr} {b : Nat → Bool} {v : V} {x : Option V} (hx : ExcC K D) (hk : ∀ k, k < 21 → PySem.W.kitOne K (.ref D) (.ref (c k)) = some (b k)) (r : ErA K D M v) : E1 K U M (tM1 K c) [some v, x] (.list [.bool (b 3), .bool (b 4), .bool (b 5)]) := by
  unfold tM1
  exact e1_lst (a1_cons (e1_isEa (x_var erA_mono rfl r) hx (fun _ z => z) (hk 3 (by decide))) (a1_cons (e1_isEa (x_var erA_mono rfl r) hx (fun _ z => z) (hk 4 (by decide))) (a1_cons (e1_isEa (x_var erA_mono rfl r) hx (fun _ z => z) (hk 5 (by decide))) a1_nil))) (show 3 ≤ 100000 by decide)
@[irreducible] def tM2 (K : PySem.W.Frag) (c : Nat → Addr) : TE := tLst (tCons (tCB (rIsEa K) (tCons (tVar 0) (tCons (tC (.ref (c 6))) tNil))) (tCons (tCB (rIsEa K) (tCons (tVar 0) (tCons (tC (.ref (c 7))) tNil))) (tCons (tCB (rIsEa K) (tCons (tVar 0) (tCons (tC (.ref (c 8))) tNil))) tNil)))
theorem xM2 {U : Wo} {M : Hp} {D : Addr} {b : Nat → Bool} {v : V} {x : Option V} (hx : ExcC K D) (hk : ∀ k, k < 21 → PySem.W.kitOne K (.ref D) (.ref (c k)) = some (b k)) (r : ErA K D M v) : E1 K U M (tM2 K c) [some v, x] (.list [.bool (b 6), .bool (b 7), .bool (b 8)]) := by
  unfold tM2
  exact e1_lst (a1_cons (e1_isEa (x_var erA_mono rfl r) hx (fun _ z => z) (hk 6 (by decide))) (a1_cons (e1_isEa (x_var erA_mono rfl r) hx (fun _ z => z) (hk 7 (by decide))) (a1_cons (e1_isEa (x_var erA_mono rfl r) hx (fun _ z => z) (hk 8 (by decide))) a1_nil))) (show 3 ≤ 100000 by decide)
@[irreducible] def tM3 (K : PySem.W.Frag) (c : Nat → Addr) : TE := tLst (tCons (tCB (rIsEa K) (tCons (tVar 0) (tCons (tC (.ref (c 9))) tNil))) (tCons (tCB (rIsEa K) (tCons (tVar 0) (tCons (tC (.ref (c 10))) tNil))) (tCons (tCB (rIsEa K) (tCons (tVar 0) (tCons (tC (.ref (c 11))) tNil))) tNil)))
theorem xM3 {U : Wo} {M : Hp} {D : Addr} {b : Nat → Bool} {v : V} {x : Option V} (hx : ExcC K D) (hk : ∀ k, k < 21 → PySem.W.kitOne K (.ref D) (.ref (c k)) = some (b k)) (r : ErA K D M v) : E1 K U M (tM3 K c) [some v, x] (.list [.bool (b 9), .bool (b 10), .bool (b 11)]) := by
  unfold tM3
  exact e1_lst (a1_cons (e1_isEa (x_var erA_mono rfl r) hx (fun _ z => z) (hk 9 (by decide))) (a1_cons (e1_isEa (x_var erA_mono rfl r) hx (fun _ z => z) (hk 10 (by decide))) (a1_cons (e1_isEa (x_var erA_mono rfl r) hx (fun _ z => z) (hk 11 (by decide))) a1_nil))) (show 3 ≤ 100000 by decide)
@[irreducible] def tM4 (K : PySem.W.Frag) (c : Nat → Addr) : TE := tLst (tCons (tCB (rIsEa K) (tCons (tVar 0) (tCons (tC (.ref (c 12))) tNil))) (tCons (tCB (rIsEa K) (tCons (tVar 0) (tCons (tC (.ref (c 13))) tNil))) (tCons (tCB (rIsEa K) (tCons (tVar 0) (tCons (tC (.ref (c 14))) tNil))) tNil)))
theorem xM4 {U : Wo} {M : Hp} {D : Addr} {b : Nat → Bool} {v : V} {x : Option V} (hx : ExcC K D) (hk : ∀ k, k < 21 → PySem.W.kitOne K (.ref D) (.ref (c k)) = some (b k)) (r : ErA K D M v) : E1 K U M (tM4 K c) [some v, x] (.list [.bool (b 12), .bool (b 13), .bool (b 14)]) := by
  unfold tM4
  exact e1_lst (a1_cons (e1_isEa (x_var erA_mono rfl r) hx (fun _ z => z) (hk 12 (by decide))) (a1_cons (e1_isEa (x_var erA_mono rfl r) hx (fun _ z => z) (hk 13 (by decide))) (a1_cons (e1_isEa (x_var erA_mono rfl r) hx (fun _ z => z) (hk 14 (by decide))) a1_nil))) (show 3 ≤ 100000 by decide)
@[irreducible] def tM5 (K : PySem.W.Frag) (c : Nat → Addr) : TE := tLst (tCons (tCB (rIsEa K) (tCons (tVar 0) (tCons (tC (.ref (c 15))) tNil))) (tCons (tCB (rIsEa K) (tCons (tVar 0) (tCons (tC (.ref (c 16))) tNil))) (tCons (tCB (rIsEa K) (tCons (tVar 0) (tCons (tC (.ref (c 17))) tNil))) tNil)))
theorem xM5 {U : Wo} {M : Hp} {D : Addr} {b : Nat → Bool} {v : V} {x : Option V} (hx : ExcC K D) (hk : ∀ k, k < 21 → PySem.W.kitOne K (.ref D) (.ref (c k)) = some (b k)) (r : ErA K D M v) : E1 K U M (tM5 K c) [some v, x] (.list [.bool (b 15), .bool (b 16), .bool (b 17)]) := by
  unfold tM5
  exact e1_lst (a1_cons (e1_isEa (x_var erA_mono rfl r) hx (fun _ z => z) (hk 15 (by decide))) (a1_cons (e1_isEa (x_var erA_mono rfl r) hx (fun _ z => z) (hk 16 (by decide))) (a1_cons (e1_isEa (x_var erA_mono rfl r) hx (fun _ z => z) (hk 17 (by decide))) a1_nil))) (show 3 ≤ 100000 by decide)
@[irreducible] def tM6 (K : PySem.W.Frag) (c : Nat → Addr) : TE := tLst (tCons (tCB (rIsEa K) (tCons (tVar 0) (tCons (tC (.ref (c 18))) tNil))) (tCons (tCB (rIsEa K) (tCons (tVar 0) (tCons (tC (.ref (c 19))) tNil))) (tCons (tCB (rIsEa K) (tCons (tVar 0) (tCons (tC (.ref (c 20))) tNil))) tNil)))
theorem xM6 {U : Wo} {M : Hp} {D : Addr} {b : Nat → Bool} {v : V} {x : Option V} (hx : ExcC K D) (hk : ∀ k, k < 21 → PySem.W.kitOne K (.ref D) (.ref (c k)) = some (b k)) (r : ErA K D M v) : E1 K U M (tM6 K c) [some v, x] (.list [.bool (b 18), .bool (b 19), .bool (b 20)]) := by
  unfold tM6
  exact e1_lst (a1_cons (e1_isEa (x_var erA_mono rfl r) hx (fun _ z => z) (hk 18 (by decide))) (a1_cons (e1_isEa (x_var erA_mono rfl r) hx (fun _ z => z) (hk 19 (by decide))) (a1_cons (e1_isEa (x_var erA_mono rfl r) hx (fun _ z => z) (hk 20 (by decide))) a1_nil))) (show 3 ≤ 100000 by decide)
/-- to which classes an error of the class at D belongs -/
def spMk (K : PySem.W.Frag) (c : Nat → Addr) : Sp := fun vs H Q _ => ∃ (U : Wo) (n : Nat) (D : Addr) (b : Nat → Bool) (v : V), vs = [v] ∧ U.ok n H ∧ ErA K D (U.view H) v ∧ ExcC K D ∧ (∀ k, k < 21 → PySem.W.kitOne K (.ref D) (.ref (c k)) = some (b k)) ∧
  ∀ v H', U.ok n H' → Same (U.view H) (U.view H') → Dd K (U.view H') v (.list ((List.range 21).map fun k => .bool (b k))) → Q v H'
theorem spMk_len {vs : List V} {H : Hp} {Q : VK} {E : XK} (h : spMk K c vs H Q E) : vs.length = 1 := by
  obtain ⟨_, _, _, _, _, rfl, _⟩ := h
  rfl
theorem e1_mk {U : Wo} {M : Hp} {σ : L2.St} {te : TE} {D : Addr} (b : Nat → Bool) (h : XE U M te σ (ErA K D)) (hx : ExcC K D) (hk : ∀ k, k < 21 → PySem.W.kitOne K (.ref D) (.ref (c k)) = some (b k)) : E1 K U M (tGo (spMk K c) (tCons te tNil)) σ (.list ((List.range 21).map fun k => .bool (b k))) := fun n H a Q q =>
  h n H a _ fun v H1 ok1 s1 r1 => ⟨U, n, D, b, v, rfl, ok1, r1, hx, hk, fun u H2 ok2 s2 d2 => q u H2 ok2 (s1.trans s2) d2⟩
theorem ok_marks {f : Addr} {fd : FuncData} (F : Fun K "_law_marks" "_law_marks" s__law_marks f fd) (T : Blt mg) (C : Cls P w K mg base W c) : FnG P w K mg base 1 f fd ["error"] (spMk K c) := by
  refine fnG F sc__law_marks (fun vs H Q E h => spMk_len h) (fun cdv A outer s H vs Q E hr h => ?_)
  obtain ⟨U, n, D, b, v, rfl, ok, r, hx, hk, q⟩ := h
  refine ⟨_, pss_cons (ps_set (i := 1) sc__law_marks.nd rfl (.inl rfl) (by
    unfold tM0
    as_aux_lemma => exact (pe_lst (pa_cons (pe_callB call_isEa (by rfl) T.isinstance (by decide +kernel) (pa_cons (pv 0) (pa_cons (pe_glob (v := .ref (c 0)) rfl C.e0.g rfl) pa_nil))) (pa_cons (pe_callB call_isEa (by rfl) T.isinstance (by decide +kernel) (pa_cons (pv 0) (pa_cons (pe_glob (v := .ref (c 1)) rfl C.e1.g rfl) pa_nil))) (pa_cons (pe_callB call_isEa (by rfl) T.isinstance (by decide +kernel) (pa_cons (pv 0) (pa_cons (pe_glob (v := .ref (c 2)) rfl C.e2.g rfl) pa_nil))) pa_nil)))) : PE _ _ (tM0 K c))) (pss_cons (ps_set (i := 1) sc__law_marks.nd rfl (.inl rfl) (pe_op op_cat (pv 1) (by
    unfold tM1
    as_aux_lemma => exact (pe_lst (pa_cons (pe_callB call_isEa (by rfl) T.isinstance (by decide +kernel) (pa_cons (pv 0) (pa_cons (pe_glob (v := .ref (c 3)) rfl C.e3.g rfl) pa_nil))) (pa_cons (pe_callB call_isEa (by rfl) T.isinstance (by decide +kernel) (pa_cons (pv 0) (pa_cons (pe_glob (v := .ref (c 4)) rfl C.e4.g rfl) pa_nil))) (pa_cons (pe_callB call_isEa (by rfl) T.isinstance (by decide +kernel) (pa_cons (pv 0) (pa_cons (pe_glob (v := .ref (c 5)) rfl C.e5.g rfl) pa_nil))) pa_nil)))) : PE _ _ (tM1 K c)))) (pss_cons (ps_set (i := 1) sc__law_marks.nd rfl (.inl rfl) (pe_op op_cat (pv 1) (by
    unfold tM2
    as_aux_lemma => exact (pe_lst (pa_cons (pe_callB call_isEa (by rfl) T.isinstance (by decide +kernel) (pa_cons (pv 0) (pa_cons (pe_glob (v := .ref (c 6)) rfl C.e6.g rfl) pa_nil))) (pa_cons (pe_callB call_isEa (by rfl) T.isinstance (by decide +kernel) (pa_cons (pv 0) (pa_cons (pe_glob (v := .ref (c 7)) rfl C.e7.g rfl) pa_nil))) (pa_cons (pe_callB call_isEa (by rfl) T.isinstance (by decide +kernel) (pa_cons (pv 0) (pa_cons (pe_glob (v := .ref (c 8)) rfl C.e8.g rfl) pa_nil))) pa_nil)))) : PE _ _ (tM2 K c)))) (pss_cons (ps_set (i := 1) sc__law_marks.nd rfl (.inl rfl) (pe_op op_cat (pv 1) (by
    unfold tM3
    as_aux_lemma => exact (pe_lst (pa_cons (pe_callB call_isEa (by rfl) T.isinstance (by decide +kernel) (pa_cons (pv 0) (pa_cons (pe_glob (v := .ref (c 9)) rfl C.e9.g rfl) pa_nil))) (pa_cons (pe_callB call_isEa (by rfl) T.isinstance (by decide +kernel) (pa_cons (pv 0) (pa_cons (pe_glob (v := .ref (c 10)) rfl C.e10.g rfl) pa_nil))) (pa_cons (pe_callB call_isEa (by rfl) T.isinstance (by decide +kernel) (pa_cons (pv 0) (pa_cons (pe_glob (v := .ref (c 11)) rfl C.e11.g rfl) pa_nil))) pa_nil)))) : PE _ _ (tM3 K c)))) (pss_cons (ps_set (i := 1) sc__law_marks.nd rfl (.inl rfl) (pe_op op_cat (pv 1) (by
    unfold tM4
    as_aux_lemma => exact (pe_lst (pa_cons (pe_callB call_isEa (by rfl) T.isinstance (by decide +kernel) (pa_cons (pv 0) (pa_cons (pe_glob (v := .ref (c 12)) rfl C.e12.g rfl) pa_nil))) (pa_cons (pe_callB call_isEa (by rfl) T.isinstance (by decide +kernel) (pa_cons (pv 0) (pa_cons (pe_glob (v := .ref (c 13)) rfl C.e13.g rfl) pa_nil))) (pa_cons (pe_callB call_isEa (by rfl) T.isinstance (by decide +kernel) (pa_cons (pv 0) (pa_cons (pe_glob (v := .ref (c 14)) rfl C.e14.g rfl) pa_nil))) pa_nil)))) : PE _ _ (tM4 K c)))) (pss_cons (ps_set (i := 1) sc__law_marks.nd rfl (.inl rfl) (pe_op op_cat (pv 1) (by
    unfold tM5
    as_aux_lemma => exact (pe_lst (pa_cons (pe_callB call_isEa (by rfl) T.isinstance (by decide +kernel) (pa_cons (pv 0) (pa_cons (pe_glob (v := .ref (c 15)) rfl C.e15.g rfl) pa_nil))) (pa_cons (pe_callB call_isEa (by rfl) T.isinstance (by decide +kernel) (pa_cons (pv 0) (pa_cons (pe_glob (v := .ref (c 16)) rfl C.e16.g rfl) pa_nil))) (pa_cons (pe_callB call_isEa (by rfl) T.isinstance (by decide +kernel) (pa_cons (pv 0) (pa_cons (pe_glob (v := .ref (c 17)) rfl C.e17.g rfl) pa_nil))) pa_nil)))) : PE _ _ (tM5 K c)))) (pss_one (ps_ret (pe_op op_cat (pv 1) (by
    unfold tM6
    as_aux_lemma => exact (pe_lst (pa_cons (pe_callB call_isEa (by rfl) T.isinstance (by decide +kernel) (pa_cons (pv 0) (pa_cons (pe_glob (v := .ref (c 18)) rfl C.e18.g rfl) pa_nil))) (pa_cons (pe_callB call_isEa (by rfl) T.isinstance (by decide +kernel) (pa_cons (pv 0) (pa_cons (pe_glob (v := .ref (c 19)) rfl C.e19.g rfl) pa_nil))) (pa_cons (pe_callB call_isEa (by rfl) T.isinstance (by decide +kernel) (pa_cons (pv 0) (pa_cons (pe_glob (v := .ref (c 20)) rfl C.e20.g rfl) pa_nil))) pa_nil)))) : PE _ _ (tM6 K c)))))))))), ?_⟩
  refine rd_seq ?_
  refine s1_asg (K := K) (d := .list [.bool (b 0), .bool (b 1), .bool (b 2)]) (At.here ok) (xM0 hx hk r) fun v1 H1 a1 s1 e1 => ?_
  dsimp only
  refine rd_seq ?_
  refine s1_asg (K := K) (d := .list ([.bool (b 0), .bool (b 1), .bool (b 2)] ++ [.bool (b 3), .bool (b 4), .bool (b 5)])) a1 (e1_op (e1_var rfl e1) (xM1 hx hk (erA_mono _ _ _ s1 r)) (r1_cat (by simp))) fun v2 H2 a2 s2 e2 => ?_
  dsimp only
  refine rd_seq ?_
  refine s1_asg (K := K) (d := .list (([.bool (b 0), .bool (b 1), .bool (b 2)] ++ [.bool (b 3), .bool (b 4), .bool (b 5)]) ++ [.bool (b 6), .bool (b 7), .bool (b 8)])) a2 (e1_op (e1_var rfl e2) (xM2 hx hk (erA_mono _ _ _ (s1.trans s2) r)) (r1_cat (by simp))) fun v3 H3 a3 s3 e3 => ?_
  dsimp only
  refine rd_seq ?_
  refine s1_asg (K := K) (d := .list ((([.bool (b 0), .bool (b 1), .bool (b 2)] ++ [.bool (b 3), .bool (b 4), .bool (b 5)]) ++ [.bool (b 6), .bool (b 7), .bool (b 8)]) ++ [.bool (b 9), .bool (b 10), .bool (b 11)])) a3 (e1_op (e1_var rfl e3) (xM3 hx hk (erA_mono _ _ _ ((s1.trans s2).trans s3) r)) (r1_cat (by simp))) fun v4 H4 a4 s4 e4 => ?_
  dsimp only
  refine rd_seq ?_
  refine s1_asg (K := K) (d := .list (((([.bool (b 0), .bool (b 1), .bool (b 2)] ++ [.bool (b 3), .bool (b 4), .bool (b 5)]) ++ [.bool (b 6), .bool (b 7), .bool (b 8)]) ++ [.bool (b 9), .bool (b 10), .bool (b 11)]) ++ [.bool (b 12), .bool (b 13), .bool (b 14)])) a4 (e1_op (e1_var rfl e4) (xM4 hx hk (erA_mono _ _ _ (((s1.trans s2).trans s3).trans s4) r)) (r1_cat (by simp))) fun v5 H5 a5 s5 e5 => ?_
  dsimp only
  refine rd_seq ?_
  refine s1_asg (K := K) (d := .list ((((([.bool (b 0), .bool (b 1), .bool (b 2)] ++ [.bool (b 3), .bool (b 4), .bool (b 5)]) ++ [.bool (b 6), .bool (b 7), .bool (b 8)]) ++ [.bool (b 9), .bool (b 10), .bool (b 11)]) ++ [.bool (b 12), .bool (b 13), .bool (b 14)]) ++ [.bool (b 15), .bool (b 16), .bool (b 17)])) a5 (e1_op (e1_var rfl e5) (xM5 hx hk (erA_mono _ _ _ ((((s1.trans s2).trans s3).trans s4).trans s5) r)) (r1_cat (by simp))) fun v6 H6 a6 s6 e6 => ?_
  dsimp only
  exact s1_ret (K := K) (d := .list ((List.range 21).map fun k => .bool (b k))) a6 (e1_op (e1_var rfl e6) (xM6 hx hk (erA_mono _ _ _ (((((s1.trans s2).trans s3).trans s4).trans s5).trans s6) r)) (r1_cat (by simp))) fun y H9 a9 s9 e9 => q y H9 a9.ok ((((((s1.trans s2).trans s3).trans s4).trans s5).trans s6).trans s9) e9
end
end Mw
namespace Mw
open PySem PySem.Spec PyProof.Rows L2

section
variable {K : PySem.W.Frag} {U : Wo} {W : Wd} {M : Hp} {σ : L2.St} {n k k0 k1 k2 m i j : Nat} {te ta tb : TE} {D : Ends} {H : Hp} {R S : RV}
/-- two drawn things are named -/
theorem x3_par {R S : PyData → Prop} (a : At U n M H) (hn : n + (k1 + k2) ≤ most) (h1 : E3 K U M k1 ta σ R) (h2 : E3 K U M k2 tb σ S)
    (q : ∀ v w d e H', R d → S e → At U (n + (k1 + k2)) (U.view H') H' → Same (U.view H) (U.view H') → Dd K (U.view H') v d → Dd K (U.view H') w e → D.nx ((σ.set i (some v)).set j (some w)) H') :
    tPar i j (tCons ta (tCons tb tNil)) D σ H :=
  h1 n H a (by omega) _ fun v d H1 r1 ok1 s1 d1 => h2 (n + k1) H1 ⟨ok1, a.up.trans s1⟩ (by omega) _ fun w e H2 r2 ok2 s2 d2 =>
    ⟨v, w, rfl, q v w d e _ r1 r2 (At.here (by rw [← Nat.add_assoc]; exact ok2)) (s1.trans s2) (d1.same s2) d2⟩
theorem x1_par {d e : PyData} (a : At U n M H) (h1 : E1 K U M ta σ d) (h2 : E1 K U M tb σ e)
    (q : ∀ v w H', At U n (U.view H') H' → Same (U.view H) (U.view H') → Dd K (U.view H') v d → Dd K (U.view H') w e → D.nx ((σ.set i (some v)).set j (some w)) H') :
    tPar i j (tCons ta (tCons tb tNil)) D σ H :=
  h1 n H a _ fun v H1 ok1 s1 d1 => h2 n H1 (a.step ok1 s1) _ fun w H2 ok2 s2 d2 => ⟨v, w, rfl, q v w _ (At.here ok2) (s1.trans s2) (d1.same s2) d2⟩
/-- a tuple's two parts, things, are named -/
theorem x_tup2 (mR : Mono R) (mS : Mono S) (a : At U n M H) (h1 : XE U M ta σ R) (h2 : XE U M tb σ S)
    (q : ∀ v w H', At U n (U.view H') H' → Same (U.view H) (U.view H') → R (U.view H') v → S (U.view H') w → D.nx ((σ.set i (some v)).set j (some w)) H') :
    tAsg (tTup (tCons ta (tCons tb tNil))) (gTup K 2 (gCons (gName i) (gCons (gName j) gNil))) D σ H :=
  h1 n H a _ fun v H1 ok1 s1 d1 => h2 n H1 (a.step ok1 s1) _ fun w H2 ok2 s2 d2 => ⟨thousand (show 2 ≤ 100000 by decide), fun p np => by
    obtain ⟨ok3, s3, f3, _⟩ := U.new (o := .tup [v, w]) ok2 np rfl
    exact ⟨p, [v, w], rfl, .inl (.inl upd_same), rfl, v, [w], rfl, w, [], rfl, rfl, q v w _ (At.here ok3) ((s1.trans s2).trans s3) (mR _ _ _ (s2.trans s3) d1) (mS _ _ _ s3 d2)⟩⟩
theorem flat1 {d : PyData} (c : Nat) : (List.replicate c [d]).flatten = List.replicate c d := by
  induction c with
  | zero => rfl
  | succ c ih => rw [List.replicate_succ, List.flatten_cons, ih, List.replicate_succ] <;> rfl
theorem dd_rep {V1 : Hp} {d : PyData} {xs : List V} (h : DdAll K V1 xs [d]) : ∀ {c : Nat}, DdAll K V1 (List.replicate c xs).flatten (List.replicate c [d]).flatten
  | 0 => .nil
  | c + 1 => by
    rw [List.replicate_succ, List.flatten_cons, List.replicate_succ, List.flatten_cons]
    exact h.app (dd_rep h)
/-- [d] * c -/
theorem r1_rep1 {d : PyData} {c : Nat} (hc : c ≤ 1000) : R1 K U rRep (.list [d]) (.int (c : Nat)) (.list (List.replicate c d)) := fun n H x y ok h1 h2 Q q => by
  cases h2
  cases h1 with
  | lst f1 a1 =>
    rename_i p xs
    have lx := a1.len
    have e : (c : Int).toNat = c := rfl
    refine ⟨_, _, _, rfl, rfl, U.le _ _ _ f1, by omega, by omega, thousand (by rw [lx, e]; show 1 * c ≤ 100000; omega), fun p np => ?_⟩
    obtain ⟨ok2, s2, f2, _⟩ := U.new (o := .lst _) ok np rfl
    refine q _ _ ok2 s2 (.lst f2 ?_)
    rw [e, ← flat1 (d := d)]
    exact dd_rep (a1.same s2)
end
theorem odd_int {j : Int} (h0 : 0 ≤ j) (h1 : j < 10 ^ 9) : OddM (.int j) := ⟨okd_more (okd_int (by omega)) (by decide) (by decide), rfl⟩
theorem fit16 {ds : List PyData} (h : ∀ d ∈ ds, OddM d) (l : ds.length ≤ 16) : Fit (.list ds) := okd_fit (okd_list (fun d hd => (h d hd).1) l).1 (by decide) (by decide)
theorem dueD (d0 d1 : PyData) : PyData.list ([d1] ++ List.replicate 15 d0) = keptD d0 d1 := rfl
def bitsD (b : Nat → Bool) : PyData := .list ((List.range 21).map fun k => .bool (b k))
theorem bits_same : ∀ k, k < 21 → PyData.eqv (bitsD fun i => decide (i = k)) (bitsD fun i => decide (i = k)) = true ∧ SeqAt.shaped (bitsD fun i => decide (i = k)) = true := by decide +kernel
def spLaw (K : PySem.W.Frag) : Sp := fun vs H Q _ => ∃ (a : Addr) (ns : List Int), vs = [.ref a] ∧ Only H ∧ SqL K H a (ns.map V.int) ∧ ns.length ≤ 63 ∧ ∀ H', Q (.bl true) H'

section
variable {P : Program} {w : World} {K : PySem.W.Frag} {mg : Str → Option Value} {base : Heap} {W : Addr} {c : Nat → Addr}
theorem each_cls {d0 d1 : PyData} : ∀ {k : Nat} {R : RV}, (eachR K c d0 d1)[k]? = some R → ∀ X v, R X v → ErA K (c k) X v
  | 0, R, h => by
    obtain rfl : EsR (c 0) "as said" = R := Option.some.inj h
    exact fun X v z => .inr ⟨_, z⟩
  | 1, R, h => by
    obtain rfl : EsR (c 1) "as said" = R := Option.some.inj h
    exact fun X v z => .inr ⟨_, z⟩
  | 2, R, h => by
    obtain rfl : EsR (c 2) "as said" = R := Option.some.inj h
    exact fun X v z => .inr ⟨_, z⟩
  | 3, R, h => by
    obtain rfl : ErR K (c 3) ["what", "most"] [d0, d1] = R := Option.some.inj h
    exact fun X v z => .inl ⟨_, _, z⟩
  | 4, R, h => by
    obtain rfl : ErR K (c 4) ["part"] [d0] = R := Option.some.inj h
    exact fun X v z => .inl ⟨_, _, z⟩
  | 5, R, h => by
    obtain rfl : EsR (c 5) "as said" = R := Option.some.inj h
    exact fun X v z => .inr ⟨_, z⟩
  | 6, R, h => by
    obtain rfl : ErR K (c 6) ["part"] [d0] = R := Option.some.inj h
    exact fun X v z => .inl ⟨_, _, z⟩
  | 7, R, h => by
    obtain rfl : ErR K (c 7) ["packet"] [d0] = R := Option.some.inj h
    exact fun X v z => .inl ⟨_, _, z⟩
  | 8, R, h => by
    obtain rfl : ErR K (c 8) ["most"] [d0] = R := Option.some.inj h
    exact fun X v z => .inl ⟨_, _, z⟩
  | 9, R, h => by
    obtain rfl : ErR K (c 9) ["place"] [d0] = R := Option.some.inj h
    exact fun X v z => .inl ⟨_, _, z⟩
  | 10, R, h => by
    obtain rfl : ErR K (c 10) ["word"] [d0] = R := Option.some.inj h
    exact fun X v z => .inl ⟨_, _, z⟩
  | 11, R, h => by
    obtain rfl : ErR K (c 11) ["at"] [d0] = R := Option.some.inj h
    exact fun X v z => .inl ⟨_, _, z⟩
  | 12, R, h => by
    obtain rfl : ErR K (c 12) ["path"] [d0] = R := Option.some.inj h
    exact fun X v z => .inl ⟨_, _, z⟩
  | 13, R, h => by
    obtain rfl : EsR (c 13) "as said" = R := Option.some.inj h
    exact fun X v z => .inr ⟨_, z⟩
  | 14, R, h => by
    obtain rfl : ErR K (c 14) ["part"] [d0] = R := Option.some.inj h
    exact fun X v z => .inl ⟨_, _, z⟩
  | 15, R, h => by
    obtain rfl : ErR K (c 15) ["at"] [d0] = R := Option.some.inj h
    exact fun X v z => .inl ⟨_, _, z⟩
  | 16, R, h => by
    obtain rfl : ErR K (c 16) ["deed"] [d0] = R := Option.some.inj h
    exact fun X v z => .inl ⟨_, _, z⟩
  | 17, R, h => by
    obtain rfl : EsR (c 17) "as said" = R := Option.some.inj h
    exact fun X v z => .inr ⟨_, z⟩
  | 18, R, h => by
    obtain rfl : ErR K (c 18) ["at"] [d0] = R := Option.some.inj h
    exact fun X v z => .inl ⟨_, _, z⟩
  | 19, R, h => by
    obtain rfl : ErR K (c 19) ["line"] [d0] = R := Option.some.inj h
    exact fun X v z => .inl ⟨_, _, z⟩
  | 20, R, h => by
    obtain rfl : ErR K (c 20) ["name"] [d0] = R := Option.some.inj h
    exact fun X v z => .inl ⟨_, _, z⟩
  | k + 21, R, h => by
    exfalso
    rw [List.getElem?_eq_none (show 21 ≤ k + 21 by omega)] at h
    cases h
theorem plain_at {d0 d1 : PyData} : ∀ k ∈ ([0, 1, 2, 5, 13, 17] : List Nat), (eachR K c d0 d1)[k]? = some (EsR (c k) "as said") := by
  intro k hk
  simp only [List.mem_cons, List.not_mem_nil, or_false] at hk
  rcases hk with rfl | rfl | rfl | rfl | rfl | rfl <;> rfl
theorem ok_law {Y : Addr} {f : Addr} {fd : FuncData} (F : Fun K "law" "law" s_law f fd) (T : Blt mg) (hEn : mg "enumerate" = none) (hVE : mg "ValueError" = none) (hs : ∃ m, base.Ns sysModules m) (C : Cls P w K mg base Y c) (G__law_begun : Def P w K mg base "_law_begun" 1 ["script"] (spBegun K)) (G__law_take : Def P w K mg base "_law_take" 2 ["state", "size"] (spTake)) (G__law_pick : Def P w K mg base "_law_pick" 3 ["state", "some"] (spPick K)) (G__law_odd : Def P w K mg base "_law_odd" 4 ["state"] (spOdd K)) (G__law_marks : Def P w K mg base "_law_marks" 1 ["error"] (spMk K c)) (G__law_each : Def P w K mg base "_law_each" 7 ["matter", "more"] (spL K (eachR K c))) (G__law_by_name : Def P w K mg base "_law_by_name" 7 ["matter", "more"] (spL K (keptR K c))) (G__law_kept : Def P w K mg base "_law_kept" 1 ["some"] (spKept K c)) (G__law_keeping : Def P w K mg base "_law_keeping" 1 ["some"] (spKeep K c)) :
    FnG P w K mg base 8 f fd ["script"] (spLaw K) := by
  refine fnG F sc_law (fun vs H Q E h => ?_) (fun cdv A outer s H vs Q E hr h => ?_)
  · obtain ⟨a, ns, rfl, _⟩ := h
    rfl
  · obtain ⟨a, ns, rfl, hO, hS, hl, q⟩ := h
    have hu := hu_of hr.r
    have hu64 := hu64 hr.r
    have hu2 := Nat.lt_of_le_of_lt (Nat.add_le_add_left (show 2 ≤ 64 by decide) _) hu64
    refine ⟨_, pss_cons (ps_set (i := 1) sc_law.nd rfl (.inl rfl) (pe_go G__law_begun hr (pa_cons (pv 0) pa_nil)))
        (pss_cons (ps_for PassesOwn.never rfl (pi_range1 (by rfl) T.range (pa_cons (pe_op op_add pe_int (pe_callB (call_min2 rfl) (by rfl) T.min (by decide +kernel) (pa_cons (pe_callB call_len (by rfl) T.len (by decide +kernel) (pa_cons (pv 0) pa_nil)) (pa_cons pe_int pa_nil)))) pa_nil)) (pg_name (i := 2) sc_law.nd rfl (.inl rfl))
        (pss_cons (ps_par (i := 3) (j := 4) rfl sc_law.nd rfl rfl (by decide) rfl rfl (pa_cons (pe_go G__law_odd hr (pa_cons (pv 1) pa_nil)) (pa_cons (pe_go G__law_pick hr (pa_cons (pv 1) (pa_cons (pe_lst (pa_cons (pe_go G__law_odd hr (pa_cons (pv 1) pa_nil)) (pa_cons (pe_go G__law_take hr (pa_cons (pv 1) (pa_cons (pe_op op_pow pe_int pe_int) pa_nil))) pa_nil))) pa_nil))) pa_nil)) (by rfl))
          (pss_cons (ps_asg (pe_tup (pa_cons (pe_go G__law_each hr (pa_cons (pv 3) (pa_cons (pv 4) pa_nil))) (pa_cons (pe_go G__law_each hr (pa_cons (pv 4) (pa_cons (pv 3) pa_nil))) pa_nil))) (pg_tup rfl (pgs_cons (pg_name (i := 5) sc_law.nd rfl (.inr rfl)) (pgs_cons (pg_name (i := 6) sc_law.nd rfl (.inl rfl)) pgs_nil))))
          (pss_cons (ps_for PassesOwn.never rfl (pi_enum (by rfl) hEn (pa_cons (pv 5) pa_nil)) (pg_tup rfl (pgs_cons (pg_name (i := 7) sc_law.nd rfl (.inr rfl)) (pgs_cons (pg_name (i := 8) sc_law.nd rfl (.inl rfl)) pgs_nil)))
          (pss_cons (ps_if (PW.pt (pw_or (pt_not (pt_val (pe_callB call_isEa (by rfl) T.isinstance (by decide +kernel) (pa_cons (pv 8) (pa_cons (pe_glob (v := .ref Y) rfl C.way.g rfl) pa_nil))))) (pw_or1 (pt_not (pt_val (pe_callB call_isEa (by rfl) T.isinstance (by decide +kernel) (pa_cons (pv 8) (pa_cons (pe_bltn (v := .ty "ValueError") (by rfl) hVE (by decide +kernel) rfl) pa_nil))))))))
          (pss_one (ps_ret pe_bl))
          pss_nil)
          (pss_one (ps_if (pt_cmpR (op_neD hu64) (pe_go G__law_marks hr (pa_cons (pv 8) pa_nil)) (pe_lc (own := [("k", 11)]) (g := gName 11) (tt := tYes) (te := tOp rEq (tVar 11) (tVar 7)) rfl sc_law.nd (pi_range1 rfl T.range (pa_cons pe_int pa_nil)) (blkOk_by (N := ["script", "state", "turn", "matter", "more", "some", "others", "spot", "error", "due", "turned", "k"]) (sc := defScope s_law) (by decide +kernel)) (fun _ _ _ _ _ => (pg_name (i := 11) sc_law.nd rfl (.inl rfl))) (fun _ _ _ _ _ => pts_nil) (fun _ _ _ _ _ => (pe_cmpR op_eq (pv 11) (pv 7) (nomark _)))) (nomark _))
          (pss_one (ps_ret pe_bl))
          pss_nil))))
          (pss_cons (ps_par (i := 9) (j := 10) rfl sc_law.nd rfl rfl (by decide) rfl rfl (pa_cons (pe_callB (call_repr hr hs) (by rfl) T.repr (by decide +kernel) (pa_cons (pe_op op_cat (pe_lst (pa_cons (pv 4) pa_nil)) (pe_op op_rep (pe_lst (pa_cons (pv 3) pa_nil)) pe_int)) pa_nil)) (pa_cons (pe_callB (call_repr hr hs) (by rfl) T.repr (by decide +kernel) (pa_cons (pe_op op_cat (pe_lst (pa_cons (pv 3) pa_nil)) (pe_op op_rep (pe_lst (pa_cons (pv 4) pa_nil)) pe_int)) pa_nil)) pa_nil)) (by rfl))
          (pss_cons (ps_if (PW.pt (pw_or (pt_cmpR op_ne (pe_callB (call_repr hr hs) (by rfl) T.repr (by decide +kernel) (pa_cons (pe_go G__law_kept hr (pa_cons (pe_go G__law_keeping hr (pa_cons (pv 5) pa_nil)) pa_nil)) pa_nil)) (pv 9) (nomark _)) (pw_or1 (pt_cmpR op_ne (pe_callB (call_repr hr hs) (by rfl) T.repr (by decide +kernel) (pa_cons (pe_go G__law_kept hr (pa_cons (pe_go G__law_by_name hr (pa_cons (pv 3) (pa_cons (pv 4) pa_nil))) pa_nil)) pa_nil)) (pv 9) (nomark _)))))
          (pss_one (ps_ret pe_bl))
          pss_nil)
          (pss_cons (ps_if (pt_cmpR op_ne (pe_callB (call_repr hr hs) (by rfl) T.repr (by decide +kernel) (pa_cons (pe_go G__law_kept hr (pa_cons (pe_go G__law_keeping hr (pa_cons (pv 6) pa_nil)) pa_nil)) pa_nil)) (pv 10) (nomark _))
          (pss_one (ps_ret pe_bl))
          pss_nil)
          (pss_one (ps_if (pt_cmpR (op_neD hu64) (pe_lc (own := [("k", 11)]) (g := gName 11) (tt := tYes) (te := tCB (rStrEs K) (tCons (tOp (rIxL K) (tVar 5) (tVar 11)) tNil)) rfl sc_law.nd (pi_list (pe_lst (pa_cons pe_int (pa_cons pe_int (pa_cons pe_int (pa_cons pe_int (pa_cons pe_int (pa_cons pe_int pa_nil)))))))) (blkOk_by (N := ["script", "state", "turn", "matter", "more", "some", "others", "spot", "error", "due", "turned", "k"]) (sc := defScope s_law) (by decide +kernel)) (fun _ _ _ _ _ => (pg_name (i := 11) sc_law.nd rfl (.inl rfl))) (fun _ _ _ _ _ => pts_nil) (fun _ _ _ _ _ => (pe_callTy (call_strEs hu2) (by rfl) T.str (by decide +kernel) (pa_cons (pe_ix ix_list (pv 5) (pv 11) (fun _ _ => rfl)) pa_nil)))) (pe_op op_rep (pe_lst (pa_cons pe_str pa_nil)) pe_int) (nomark _))
          (pss_one (ps_ret pe_bl))
          pss_nil)))))))))
        (pss_one (ps_ret (pe_and (pe_cmpR op_notIn_seq pe_bl (pe_go G__law_marks hr (pa_cons (pe_mkS C.way) pa_nil)) rfl) (pe_one (pe_callB call_isEa (by rfl) T.isinstance (by decide +kernel) (pa_cons (pe_mkS C.way) (pa_cons (pe_bltn (v := .ty "ValueError") (by rfl) hVE (by decide +kernel) rfl) pa_nil)))))))), ?_⟩

    refine rd_seq ?_
    refine rd_asg ?_
    refine rd_go (rd_cons ?_)
    refine rd_var rfl ?_
    refine rd_nil ?_
    refine ⟨a, ns, rfl, hS, hl, fun W H0 e0 S0 nd nw => ?_⟩
    refine rd_name ?_
    have off : ∀ b, H b ≠ none → b ≠ W.d ∧ b ≠ W.w ∧ b ≠ W.c := fun b hb => by
      refine ⟨fun z => hb (z ▸ nd), fun z => hb (z ▸ nw), fun z => ?_⟩
      obtain ⟨r, t, ms, cs, S, _⟩ := S0
      rcases hO b with h1 | ⟨ob, xs, h1⟩
      · exact hb h1
      · have h2 := e0 _ _ h1
        rw [z, S.c] at h2
        cases h2
    have up0 : Same H (mk W H0) := fun b x e => mk_of (e0 b x e) (off b (by rw [e]; intro z; cases z)).1 (off b (by rw [e]; intro z; cases z)).2.1 (off b (by rw [e]; intro z; cases z)).2.2
    have o : Of (wd W) W := of_wd W
    have a0 : At (wd W) 0 (mk W H0) H0 := ⟨S0, Same.refl _⟩
    have hS0 : SqL K (mk W H0) a (ns.map V.int) := up0.seq hS
    have big : (13 : Nat) * 4 + 0 ≤ most := by decide
    refine rd_seq ?_
    refine s3_for (K := K) (k0 := 0) (k := 4) (m := 13) a0 (by omega) (I1.i3 (P := fun ds => ds.length ≤ 13) (i1_rng (e1_op e1_int (e1_min (e1_lenOf rfl hS0) e1_int) r1_int) ?b1 ?b2) ?b3) (fun ds p => p) (fun i σ H => ∃ x2 x3 x4 x5 x6 x7 x8 x9 x10 x11, σ = [some (.ref a), some (.ref W.d), x2, x3, x4, x5, x6, x7, x8, x9, x10, x11]) (fun H' s' => ⟨_, _, _, _, _, _, _, _, _, _, rfl⟩) ?_ ?_
    case b1 =>
      split <;> omega
    case b2 =>
      split <;> omega
    case b3 =>
      rw [List.length_map, List.length_range]
      split <;> omega
    · rintro it n σ' H1 v2 dt N hi hn ⟨x2, x3, x4, x5, x6, x7, x8, x9, x10, x11, rfl⟩ a1 s1 e2 hN
      refine rd_seq ?_
      refine x3_par (K := K) (k1 := 1) (k2 := 3) (R := OddM) (S := OddM) (At.here a1.ok) (by omega) (e3_god (m := 0) o rfl a1_nil rfl trivial) (e3_pick (k := 2) o rfl (E3.weak (e3_lst (m := 2) (R := OddM) (a3_cons (k1 := 1) (k2 := 1) (e3_god (m := 0) o rfl a1_nil rfl trivial) (a3_cons (k1 := 1) (k2 := 0) (E3.weak (e3_take (z := 10 ^ 9) o rfl (powC ⟨by decide, by decide, by decide⟩) (by decide) (by decide)) ?w1) a3_nil)) (by decide)) ?w2)) fun v3 v4 d0 d1 H2 o0 o1 a2 s2 e3 e4 => ?_
      case w1 =>
        rintro d ⟨j, rfl, j0, j1⟩
        exact odd_int j0 j1
      case w2 =>
        rintro d ⟨ds, rfl, l, hd⟩
        exact ⟨ds, .inl rfl, (fun z => by
          rw [z] at l
          cases l), (by omega), hd⟩
      dsimp only
      refine rd_seq ?_
      refine x_tup2 (isL_mono (Rs := eachR K c d0 d1) each_mono) (isL_mono (Rs := eachR K c d1 d0) each_mono) a2 (x_goL (a1_cons (e1_var rfl e3) (a1_cons (e1_var rfl e4) a1_nil)) o0 o1) (x_goL (a1_cons (e1_var rfl e4) (a1_cons (e1_var rfl e3) a1_nil)) o1 o0) fun v5 v6 H3 a3 s3 r5 r6 => ?_
      have e33 := e3.same s3
      have e43 := e4.same s3
      dsimp only
      refine rd_seq ?_
      refine x_forE (Rs := eachR K c d0 d1) each_mono a3 (x_var (isL_mono each_mono) rfl r5) (fun _ σ => ∃ y7 y8, σ = [some (.ref a), some (.ref W.d), some v2, some v3, some v4, some v5, some v6, y7, y8, x9, x10, x11]) ⟨_, _, rfl⟩ ?_ ?_
      · rintro k σ' H4 v8 R N2 hR ⟨y7, y8, rfl⟩ a4 s4 rv hN2
        have hk : k < 21 := (List.getElem?_eq_some_iff.mp hR).1
        have rA := each_cls hR _ _ rv
        refine rd_seq ?_
        refine s1_if (b := false) (At.here a4.ok) (t1_or (a := false) (b := false) (t1_not (b := true) (t1_val (e1_isEa (x_var erA_mono rfl rA) (C.x k hk) (fun _ z => z) (C.isW k hk)))) fun _ => t1_not (b := true) (t1_val (e1_isEa (x_var erA_mono rfl rA) (C.x k hk) (fun _ z => z) (C.isV k hk)))) (fun z => nomatch z) fun _ H5 a5 s5 => ?_
        have rA5 := erA_mono _ _ _ s5 rA
        obtain ⟨b1, b2⟩ := bits_same k hk
        refine s1_if (b := false) (At.here a5.ok) (t1_test (E1.is (e1_op (e1_mk (fun i => decide (i = k)) (x_var erA_mono rfl rA5) (C.x k hk) (fun i hi => C.kit k i hk hi)) (E1.is (e := bitsD fun i => decide (i = k)) (e1_lc (p := fun _ => true) (f := fun d => match d with | .int j => .bool (decide (j = (k : Nat))) | _ => .none) (i1_rng e1_int (by decide) (by decide)) (by simp) (fun x => rfl) (fun _ _ _ _ _ _ _ => t1_yes) ?h1) ?h2) (r1_neD (d := bitsD fun i => decide (i = k)) b2 b2)) (congrArg PyData.bool (by rw [b1] <;> rfl)))) (fun z => nomatch z) fun _ H6 a6 s6 => ?_
        case h1 =>
          intro U' M' u d _ hd _ du
          obtain ⟨i, _, rfl⟩ := List.mem_map.mp hd
          exact e1_op (e1_var rfl du) (e1_var rfl (Dd.int _)) r1_eqI
        case h2 =>
          rw [List.filter_eq_self.mpr fun _ _ => rfl, List.map_map]
          refine congrArg PyData.list (List.map_congr_left fun i _ => ?_)
          exact congrArg PyData.bool (decide_eq_decide.mpr ⟨fun z => by have z : (i : Int) = k := z; omega, fun z => by rw [z] <;> rfl⟩)
        exact hN2 _ _ ⟨_, _, rfl⟩ ⟨a6.ok, (a4.up.trans s5).trans s6⟩ (s5.trans s6)
      · rintro σ' H4 ⟨y7, y8, rfl⟩ a4 s4
        have e34 := e33.same s4
        have e44 := e43.same s4
        have r54 := isL_mono each_mono _ _ _ s4 r5
        have r64 := isL_mono each_mono _ _ _ s4 r6
        have k01 : ∀ d ∈ ([d1] ++ List.replicate 15 d0), OddM d := fun d hd => by
          rcases List.mem_append.mp hd with hd | hd
          · rw [List.mem_singleton.mp hd]
            exact o1
          · rw [(List.mem_replicate.mp hd).2]
            exact o0
        have k10 : ∀ d ∈ ([d0] ++ List.replicate 15 d1), OddM d := fun d hd => by
          rcases List.mem_append.mp hd with hd | hd
          · rw [List.mem_singleton.mp hd]
            exact o0
          · rw [(List.mem_replicate.mp hd).2]
            exact o1
        have f01 : Fit (keptD d0 d1) := fit16 k01 (by simp)
        have f10 : Fit (keptD d1 d0) := fit16 k10 (by simp)
        refine rd_seq ?_
        refine x1_par (K := K) (d := .str (keptD d0 d1).shown) (e := .str (keptD d1 d0).shown) (At.here a4.ok) (e1_repr (d := keptD d0 d1) (e1_op (e1_lst (a1_cons (e1_var rfl e44) a1_nil) (show 1 ≤ 100000 by decide)) (e1_op (e1_lst (a1_cons (e1_var rfl e34) a1_nil) (show 1 ≤ 100000 by decide)) e1_int (r1_rep1 (c := 15) (by decide))) (r1_cat (by simp))) f01) (e1_repr (d := keptD d1 d0) (e1_op (e1_lst (a1_cons (e1_var rfl e34) a1_nil) (show 1 ≤ 100000 by decide)) (e1_op (e1_lst (a1_cons (e1_var rfl e44) a1_nil) (show 1 ≤ 100000 by decide)) e1_int (r1_rep1 (c := 15) (by decide))) (r1_cat (by simp))) f10) fun v9 v10 H5 a5 s5 e9 e10 => ?_
        have e35 := e34.same s5
        have e45 := e44.same s5
        have r55 := isL_mono each_mono _ _ _ s5 r54
        have r65 := isL_mono each_mono _ _ _ s5 r64
        dsimp only
        refine rd_seq ?_
        refine s1_if (b := false) a5 (t1_or (a := false) (b := false) (t1_test (E1.is (e1_op (e1_repr (d := keptD d0 d1) (x_go (R := fun d0 d1 => IsL (keptR K c d0 d1)) (S := fun d0 d1 X v => Dd K X v (keptD d0 d1)) (d0 := d0) (d1 := d1) (x_go (R := fun d0 d1 => IsL (eachR K c d0 d1)) (S := fun d0 d1 => IsL (keptR K c d0 d1)) (d0 := d0) (d1 := d1) (x_var (isL_mono each_mono) rfl r55))) f01) (e1_var rfl e9) r1_neS) (congrArg PyData.bool same_shown))) fun _ => t1_test (E1.is (e1_op (e1_repr (d := keptD d0 d1) (x_go (R := fun d0 d1 => IsL (keptR K c d0 d1)) (S := fun d0 d1 X v => Dd K X v (keptD d0 d1)) (d0 := d0) (d1 := d1) (x_goL (a1_cons (e1_var rfl e35) (a1_cons (e1_var rfl e45) a1_nil)) o0 o1)) f01) (e1_var rfl e9) r1_neS) (congrArg PyData.bool same_shown))) (fun z => nomatch z) fun _ H6 a6 s6 => ?_
        have e106 := e10.same s6
        have r56 := isL_mono each_mono _ _ _ s6 r55
        have r66 := isL_mono each_mono _ _ _ s6 r65
        refine rd_seq ?_
        refine s1_if (b := false) (At.here a6.ok) (t1_test (E1.is (e1_op (e1_repr (d := keptD d1 d0) (x_go (R := fun d0 d1 => IsL (keptR K c d0 d1)) (S := fun d0 d1 X v => Dd K X v (keptD d0 d1)) (d0 := d1) (d1 := d0) (x_go (R := fun d0 d1 => IsL (eachR K c d0 d1)) (S := fun d0 d1 => IsL (keptR K c d0 d1)) (d0 := d1) (d1 := d0) (x_var (isL_mono each_mono) rfl r66))) f10) (e1_var rfl e106) r1_neS) (congrArg PyData.bool same_shown))) (fun z => nomatch z) fun _ H7 a7 s7 => ?_
        have r57 := isL_mono each_mono _ _ _ s7 r56
        refine s1_if (b := false) (At.here a7.ok) (t1_test (E1.is (e1_op (E1.is (e := .list (List.replicate 6 (.str "as said"))) (e1_lc (p := fun _ => true) (f := fun _ => .str "as said") (i1_list (e1_lst (ds := ([0, 1, 2, 5, 13, 17] : List Nat).map fun i => .int (i : Nat)) (a1_cons e1_int (a1_cons e1_int (a1_cons e1_int (a1_cons e1_int (a1_cons e1_int (a1_cons e1_int a1_nil)))))) (show 6 ≤ 100000 by decide))) (show 6 ≤ 100000 by decide) (fun x => rfl) (fun _ _ _ _ _ _ _ => t1_yes) ?h3) rfl) (e1_op (e1_lst (a1_cons e1_str a1_nil) (show 1 ≤ 100000 by decide)) e1_int (r1_rep1 (c := 6) (by decide))) (r1_neD (by decide +kernel) (by decide +kernel))) (congrArg PyData.bool (by decide +kernel)))) (fun z => nomatch z) fun _ H8 a8 s8 => ?_
        case h3 =>
          intro U' M' u d ms hd _ du
          obtain ⟨i, hi, rfl⟩ := List.mem_map.mp hd
          have hl : i < 21 := (show ∀ i ∈ ([0, 1, 2, 5, 13, 17] : List Nat), i < 21 by decide) i hi
          exact e1_strEs (x_ixE esR_mono each_mono (x_var (isL_mono each_mono) rfl (isL_mono each_mono _ _ _ ms r57)) (e1_var rfl du) (plain_at i hi)) (C.str i hl) (C.b i hl)
        have tot : Same (mk W H1) (mk W H8) := ((((((s2.trans s3).trans s4).trans s5).trans s6).trans s7).trans s8)
        exact hN _ _ ⟨_, _, _, _, _, _, _, _, _, _, rfl⟩ ⟨a8.ok, a1.up.trans tot⟩ tot
    · rintro i σ' H1 hi ⟨x2, x3, x4, x5, x6, x7, x8, x9, x10, x11, rfl⟩ a1 s1
      refine s1_ret (K := K) (d := .bool (true && true)) (At.here a1.ok) (e1_and (E1.is (e1_op e1_bl (e1_mk (fun _ => false) (fun n H a Q q => x_exS n H a Q fun v H' ok s r => q v H' ok s (.inr ⟨_, r⟩)) C.xw C.wN) (r1_inL (neg := true) rfl (by decide))) (congrArg PyData.bool (by decide +kernel))) fun _ => e1_isEa (c := .ty "ValueError") (cv := .type "ValueError") (fun n H a Q q => x_exS n H a Q fun v H' ok s r => q v H' ok s (.inr ⟨_, r⟩)) C.xw (fun _ z => z) C.wV) fun v H2 a2 s2 d2 => ?_
      cases d2
      exact q _
end
end Mw
namespace Mw
open PySem PySem.Spec PyProof.Rows L2
/-! ### what is asked of the classes, as tests -/
def at21 (cs : List Addr) (i : Nat) : Addr := cs.getD i 0
def pairB (K : PySem.W.Frag) (cs : List Addr) : Bool := (List.range 21).all fun i => (List.range 21).all fun j => PySem.W.kitOne K (.ref (at21 cs i)) (.ref (at21 cs j)) == some (decide (j = i))
def farB (K : PySem.W.Frag) (W : Addr) (cs : List Addr) : Bool := (List.range 21).all fun i => PySem.W.kitOne K (.ref W) (.ref (at21 cs i)) == some false
def upB (K : PySem.W.Frag) (W : Addr) (cs : List Addr) : Bool := (List.range 21).all fun i => PySem.W.kitOne K (.ref (at21 cs i)) (.ref W) == some true && PySem.W.kitOne K (.ref (at21 cs i)) (.type "ValueError") == some true
theorem all21 {f : Nat → Bool} (h : (List.range 21).all f = true) : ∀ i, i < 21 → f i = true := fun i hi => List.all_eq_true.mp h i (List.mem_range.mpr hi)
/-- the same of each class -/
structure One (K : PySem.W.Frag) (C : Addr) : Prop where
  x : ExcC K C
  t : PySem.W.typeIn K (.ref C) = some (.type "type")
  k : PySem.W.keepIn K (.ref C) = true
  s : PySem.W.findIn K (.ref C) "__str__" = some (some (.builtin "BaseException.__str__"))
theorem One.f {K : PySem.W.Frag} {C : Addr} (h : One K C) : XfC K C := ⟨h.x.hg, h.x.hk, h.x.hs, h.x.hd⟩
theorem of21 {Q : Addr → Prop} {cs : List Addr} (l : cs.length = 21) (h : ∀ C ∈ cs, Q C) : ∀ i, i < 21 → Q (at21 cs i) := fun i hi => by
  unfold at21
  rw [List.getD_eq_getElem?_getD, List.getElem?_eq_getElem (by omega)]
  exact h _ (List.getElem_mem _)
/-- self and one more by name; self and two more by name, the last one first -/
theorem kb_i1 {K : PySem.W.Frag} {fd : FuncData} {p : Str} (h : ∀ u w : Value, bindArgs fd ⟨[u], [(p, w)]⟩ = (pure [("self", u), (p, w)] : Sem (List (Str × Value)))) : KBn K fd ["self", p] 1 [p] (fun us ws => us ++ ws) (fun vs zs => vs ++ id zs) where
  to := fun s us ws _ l1 l2 => match us, ws, l1, l2 with
    | [u], [w], _, _ => .of_eq (h u w)
  rel := fun a b => a.append b
theorem kb_i2 {K : PySem.W.Frag} {fd : FuncData} {p r : Str} (h : ∀ u w z : Value, bindArgs fd ⟨[u], [(r, w), (p, z)]⟩ = (pure [("self", u), (p, z), (r, w)] : Sem (List (Str × Value)))) : KBn K fd ["self", p, r] 1 [r, p] (fun us ws => us ++ swap2 ws) (fun vs zs => vs ++ swap2 zs) where
  to := fun s us ws _ l1 l2 => match us, ws, l1, l2 with
    | [u], [w, z], _, _ => .of_eq (h u w z)
  rel := fun a b => a.append (by
    cases b with
    | nil => exact .nil
    | cons x b => cases b with
      | nil => exact .cons x .nil
      | cons y b => cases b with
        | nil => exact .cons y (.cons x .nil)
        | cons z b => exact .cons x (.cons y (.cons z b)))
theorem fnG_none {P : Program} {w : World} {K : PySem.W.Frag} {mg : Str → Option Value} {base : Heap} {f : Addr} {fd : FuncData} {ps : List Str} : FnG P w K mg base 0 f fd ps (spPrevC K 0) := ⟨fun _ _ _ _ h => h.elim, fun _ _ _ _ _ _ _ _ _ _ _ _ _ h => h.elim⟩

theorem all_mk {l : PySem.W.OpenLaw} {w : World} {K : PySem.W.Frag} {h : Heap} {mg : Str → Option Value} {fa fc CW f1 f2 f3 f4 f5 f6 f7 f8 f9 f10 f11 c0 c1 c2 c3 c4 c5 c6 c7 c8 c9 c10 c11 c12 c13 c14 c15 c16 c17 c18 c19 c20 : Addr} (X : K.In h) (G : h.Ns mainGlobals mg) (hfa : mg "law" = some (.ref fa))
    {od1 an1 : Option Addr} {sl1 : Array (Option Value)} {oc1 kV1 dc1 pm1 cd1 ct1 : Value} (a1 : PySem.W.nsIn K mainGlobals "_law_begun" = some (some (.ref f1)))
    (l1 : K.lookup f1 = some ⟨oc1, od1, .func (PySem.W.fnOf "_law_begun" "_law_begun" (defArgs s__law_begun) (defBody s__law_begun) (defScope s__law_begun) .none kV1 dc1 pm1 an1 cd1 ct1), sl1⟩)
    (k1 : PySem.W.codeIn K cd1 "_law_begun" = true)
    (p1 : PySem.W.keepIn K (.ref f1) = true)
    {od2 an2 : Option Addr} {sl2 : Array (Option Value)} {oc2 kV2 dc2 pm2 cd2 ct2 : Value} (a2 : PySem.W.nsIn K mainGlobals "_law_mixed" = some (some (.ref f2)))
    (l2 : K.lookup f2 = some ⟨oc2, od2, .func (PySem.W.fnOf "_law_mixed" "_law_mixed" (defArgs s__law_mixed) (defBody s__law_mixed) (defScope s__law_mixed) .none kV2 dc2 pm2 an2 cd2 ct2), sl2⟩)
    (k2 : PySem.W.codeIn K cd2 "_law_mixed" = true)
    (p2 : PySem.W.keepIn K (.ref f2) = true)
    {od3 an3 : Option Addr} {sl3 : Array (Option Value)} {oc3 kV3 dc3 pm3 cd3 ct3 : Value} (a3 : PySem.W.nsIn K mainGlobals "_law_take" = some (some (.ref f3)))
    (l3 : K.lookup f3 = some ⟨oc3, od3, .func (PySem.W.fnOf "_law_take" "_law_take" (defArgs s__law_take) (defBody s__law_take) (defScope s__law_take) .none kV3 dc3 pm3 an3 cd3 ct3), sl3⟩)
    (k3 : PySem.W.codeIn K cd3 "_law_take" = true)
    (p3 : PySem.W.keepIn K (.ref f3) = true)
    {od4 an4 : Option Addr} {sl4 : Array (Option Value)} {oc4 kV4 dc4 pm4 cd4 ct4 : Value} (a4 : PySem.W.nsIn K mainGlobals "_law_pick" = some (some (.ref f4)))
    (l4 : K.lookup f4 = some ⟨oc4, od4, .func (PySem.W.fnOf "_law_pick" "_law_pick" (defArgs s__law_pick) (defBody s__law_pick) (defScope s__law_pick) .none kV4 dc4 pm4 an4 cd4 ct4), sl4⟩)
    (k4 : PySem.W.codeIn K cd4 "_law_pick" = true)
    (p4 : PySem.W.keepIn K (.ref f4) = true)
    {od5 an5 : Option Addr} {sl5 : Array (Option Value)} {oc5 kV5 dc5 pm5 cd5 ct5 : Value} (a5 : PySem.W.nsIn K mainGlobals "_law_odd" = some (some (.ref f5)))
    (l5 : K.lookup f5 = some ⟨oc5, od5, .func (PySem.W.fnOf "_law_odd" "_law_odd" (defArgs s__law_odd) (defBody s__law_odd) (defScope s__law_odd) .none kV5 dc5 pm5 an5 cd5 ct5), sl5⟩)
    (k5 : PySem.W.codeIn K cd5 "_law_odd" = true)
    (p5 : PySem.W.keepIn K (.ref f5) = true)
    {od6 an6 : Option Addr} {sl6 : Array (Option Value)} {oc6 kV6 dc6 pm6 cd6 ct6 : Value} (a6 : PySem.W.nsIn K mainGlobals "_law_marks" = some (some (.ref f6)))
    (l6 : K.lookup f6 = some ⟨oc6, od6, .func (PySem.W.fnOf "_law_marks" "_law_marks" (defArgs s__law_marks) (defBody s__law_marks) (defScope s__law_marks) .none kV6 dc6 pm6 an6 cd6 ct6), sl6⟩)
    (k6 : PySem.W.codeIn K cd6 "_law_marks" = true)
    (p6 : PySem.W.keepIn K (.ref f6) = true)
    {od7 an7 : Option Addr} {sl7 : Array (Option Value)} {oc7 kV7 dc7 pm7 cd7 ct7 : Value} (a7 : PySem.W.nsIn K mainGlobals "_law_each" = some (some (.ref f7)))
    (l7 : K.lookup f7 = some ⟨oc7, od7, .func (PySem.W.fnOf "_law_each" "_law_each" (defArgs s__law_each) (defBody s__law_each) (defScope s__law_each) .none kV7 dc7 pm7 an7 cd7 ct7), sl7⟩)
    (k7 : PySem.W.codeIn K cd7 "_law_each" = true)
    (p7 : PySem.W.keepIn K (.ref f7) = true)
    {od8 an8 : Option Addr} {sl8 : Array (Option Value)} {oc8 kV8 dc8 pm8 cd8 ct8 : Value} (a8 : PySem.W.nsIn K mainGlobals "_law_by_name" = some (some (.ref f8)))
    (l8 : K.lookup f8 = some ⟨oc8, od8, .func (PySem.W.fnOf "_law_by_name" "_law_by_name" (defArgs s__law_by_name) (defBody s__law_by_name) (defScope s__law_by_name) .none kV8 dc8 pm8 an8 cd8 ct8), sl8⟩)
    (k8 : PySem.W.codeIn K cd8 "_law_by_name" = true)
    (p8 : PySem.W.keepIn K (.ref f8) = true)
    {od9 an9 : Option Addr} {sl9 : Array (Option Value)} {oc9 kV9 dc9 pm9 cd9 ct9 : Value} (a9 : PySem.W.nsIn K mainGlobals "_law_kept" = some (some (.ref f9)))
    (l9 : K.lookup f9 = some ⟨oc9, od9, .func (PySem.W.fnOf "_law_kept" "_law_kept" (defArgs s__law_kept) (defBody s__law_kept) (defScope s__law_kept) .none kV9 dc9 pm9 an9 cd9 ct9), sl9⟩)
    (k9 : PySem.W.codeIn K cd9 "_law_kept" = true)
    (p9 : PySem.W.keepIn K (.ref f9) = true)
    {od10 an10 : Option Addr} {sl10 : Array (Option Value)} {oc10 kV10 dc10 pm10 cd10 ct10 : Value} (a10 : PySem.W.nsIn K mainGlobals "_law_keeping" = some (some (.ref f10)))
    (l10 : K.lookup f10 = some ⟨oc10, od10, .func (PySem.W.fnOf "_law_keeping" "_law_keeping" (defArgs s__law_keeping) (defBody s__law_keeping) (defScope s__law_keeping) .none kV10 dc10 pm10 an10 cd10 ct10), sl10⟩)
    (k10 : PySem.W.codeIn K cd10 "_law_keeping" = true)
    (p10 : PySem.W.keepIn K (.ref f10) = true)
    {od11 an11 : Option Addr} {sl11 : Array (Option Value)} {oc11 kV11 dc11 pm11 cd11 ct11 : Value} (a11 : PySem.W.nsIn K mainGlobals "law" = some (some (.ref f11)))
    (l11 : K.lookup f11 = some ⟨oc11, od11, .func (PySem.W.fnOf "law" "law" (defArgs s_law) (defBody s_law) (defScope s_law) .none kV11 dc11 pm11 an11 cd11 ct11), sl11⟩)
    (k11 : PySem.W.codeIn K cd11 "law" = true)
    (p11 : PySem.W.keepIn K (.ref f11) = true)
    (z_abs : PySem.W.nsIn K mainGlobals "abs" = some none)
    (z_int : PySem.W.nsIn K mainGlobals "int" = some none)
    (z_len : PySem.W.nsIn K mainGlobals "len" = some none)
    (z_list : PySem.W.nsIn K mainGlobals "list" = some none)
    (z_tuple : PySem.W.nsIn K mainGlobals "tuple" = some none)
    (z_range : PySem.W.nsIn K mainGlobals "range" = some none)
    (z_sorted : PySem.W.nsIn K mainGlobals "sorted" = some none)
    (z_isinstance : PySem.W.nsIn K mainGlobals "isinstance" = some none)
    (z_str : PySem.W.nsIn K mainGlobals "str" = some none)
    (z_bool : PySem.W.nsIn K mainGlobals "bool" = some none)
    (z_all : PySem.W.nsIn K mainGlobals "all" = some none)
    (z_set : PySem.W.nsIn K mainGlobals "set" = some none)
    (z_repr : PySem.W.nsIn K mainGlobals "repr" = some none)
    (z_min : PySem.W.nsIn K mainGlobals "min" = some none)
    (z_zip : PySem.W.nsIn K mainGlobals "zip" = some none)
    (z_dict : PySem.W.nsIn K mainGlobals "dict" = some none)
    (z_enumerate : PySem.W.nsIn K mainGlobals "enumerate" = some none)
    (z_ValueError : PySem.W.nsIn K mainGlobals "ValueError" = some none)
    (z_super : PySem.W.nsIn K mainGlobals "super" = some none)
    {odc anc : Option Addr} {slc : Array (Option Value)} {occ kVc dcc pmc cdc ctc : Value} {TD : Addr} {otc : Value} {odt : Option Addr} {nt : Nat} {tkt : Tok} {slt : Array (Option Value)} (ca : PySem.W.nsIn K mainGlobals "copied" = some (some (.ref fc)))
    (cl : K.lookup fc = some ⟨occ, odc, .func (PySem.W.fnOf "copied" "copied" (defArgs s_copied) (defBody s_copied) (defScope s_copied) (.ref TD) kVc dcc pmc anc cdc ctc), slc⟩)
    (cc : PySem.W.codeIn K cdc "copied" = true)
    (ck : PySem.W.keepIn K (.ref fc) = true)
    (ct : K.lookup TD = some ⟨otc, odt, .seq #[.int 20 tkt] nt, slt⟩)
    (hn : PySem.W.specialIn K (.builtin "object.__class__") "__get__" = some (some (.builtin "getset_descriptor.__get__")))
    (ht : PySem.W.takesIn K (.builtin "object.__class__") = some true)
    (thr : PySem.W.nsIn K PySem.cStatics "thirdparty.any" = some none)
    (top : (l.prog.main.scope.names.lookup ("super" : Str)).isSome = false)
    (cgW : PySem.W.nsIn K mainGlobals "WayError" = some (some (.ref CW)))
    (hgW : PySem.W.findIn K (.ref CW) "__getattribute__" = some (some (.builtin "BaseException.__getattribute__")))
    (hkW : PySem.W.findIn K (.ref CW) "__getattr__" = some none)
    (hsW : PySem.W.subIn K (.ref CW) (.type "BaseException") = some true)
    (hdW : PySem.W.hasDictIn K CW = true)
    (hcW : PySem.W.findIn K (.ref CW) "__class__" = some (some (.builtin "object.__class__")))
    (hmW : PySem.W.mroIn K CW (.type "object") = some true)
    (htW : PySem.W.typeIn K (.ref CW) = some (.type "type"))
    (hpW : PySem.W.keepIn K (.ref CW) = true)
    (hxW : PySem.W.findIn K (.ref CW) "__str__" = some (some (.builtin "BaseException.__str__")))
    (exW : PySem.W.excIn K CW bmV "ValueError.__new__" = true)
    (cg0 : PySem.W.nsIn K mainGlobals "BadFields" = some (some (.ref c0)))
    (hg0 : PySem.W.findIn K (.ref c0) "__getattribute__" = some (some (.builtin "BaseException.__getattribute__")))
    (hk0 : PySem.W.findIn K (.ref c0) "__getattr__" = some none)
    (hs0 : PySem.W.subIn K (.ref c0) (.type "BaseException") = some true)
    (hd0 : PySem.W.hasDictIn K c0 = true)
    (hc0 : PySem.W.findIn K (.ref c0) "__class__" = some (some (.builtin "object.__class__")))
    (hm0 : PySem.W.mroIn K c0 (.type "object") = some true)
    (ht0 : PySem.W.typeIn K (.ref c0) = some (.type "type"))
    (hp0 : PySem.W.keepIn K (.ref c0) = true)
    (hx0 : PySem.W.findIn K (.ref c0) "__str__" = some (some (.builtin "BaseException.__str__")))
    (ex0 : PySem.W.excIn K c0 bmV "ValueError.__new__" = true)
    (cg1 : PySem.W.nsIn K mainGlobals "BadNumbers" = some (some (.ref c1)))
    (hg1 : PySem.W.findIn K (.ref c1) "__getattribute__" = some (some (.builtin "BaseException.__getattribute__")))
    (hk1 : PySem.W.findIn K (.ref c1) "__getattr__" = some none)
    (hs1 : PySem.W.subIn K (.ref c1) (.type "BaseException") = some true)
    (hd1 : PySem.W.hasDictIn K c1 = true)
    (hc1 : PySem.W.findIn K (.ref c1) "__class__" = some (some (.builtin "object.__class__")))
    (hm1 : PySem.W.mroIn K c1 (.type "object") = some true)
    (ht1 : PySem.W.typeIn K (.ref c1) = some (.type "type"))
    (hp1 : PySem.W.keepIn K (.ref c1) = true)
    (hx1 : PySem.W.findIn K (.ref c1) "__str__" = some (some (.builtin "BaseException.__str__")))
    (ex1 : PySem.W.excIn K c1 bmV "ValueError.__new__" = true)
    (cg2 : PySem.W.nsIn K mainGlobals "BadTree" = some (some (.ref c2)))
    (hg2 : PySem.W.findIn K (.ref c2) "__getattribute__" = some (some (.builtin "BaseException.__getattribute__")))
    (hk2 : PySem.W.findIn K (.ref c2) "__getattr__" = some none)
    (hs2 : PySem.W.subIn K (.ref c2) (.type "BaseException") = some true)
    (hd2 : PySem.W.hasDictIn K c2 = true)
    (hc2 : PySem.W.findIn K (.ref c2) "__class__" = some (some (.builtin "object.__class__")))
    (hm2 : PySem.W.mroIn K c2 (.type "object") = some true)
    (ht2 : PySem.W.typeIn K (.ref c2) = some (.type "type"))
    (hp2 : PySem.W.keepIn K (.ref c2) = true)
    (hx2 : PySem.W.findIn K (.ref c2) "__str__" = some (some (.builtin "BaseException.__str__")))
    (ex2 : PySem.W.excIn K c2 bmV "ValueError.__new__" = true)
    (cg3 : PySem.W.nsIn K mainGlobals "TooMany" = some (some (.ref c3)))
    (hg3 : PySem.W.findIn K (.ref c3) "__getattribute__" = some (some (.builtin "BaseException.__getattribute__")))
    (hk3 : PySem.W.findIn K (.ref c3) "__getattr__" = some none)
    (hs3 : PySem.W.subIn K (.ref c3) (.type "BaseException") = some true)
    (hd3 : PySem.W.hasDictIn K c3 = true)
    (hc3 : PySem.W.findIn K (.ref c3) "__class__" = some (some (.builtin "object.__class__")))
    (hm3 : PySem.W.mroIn K c3 (.type "object") = some true)
    (ht3 : PySem.W.typeIn K (.ref c3) = some (.type "type"))
    (hp3 : PySem.W.keepIn K (.ref c3) = true)
    (hx3 : PySem.W.findIn K (.ref c3) "__str__" = some (some (.builtin "BaseException.__str__")))
    {nm3 : _} {qn3 : _} {nn3 : _} {bs3 : _} {bm3 : _} {sn3 : _} {sb3 : _} {ab3 : _} {co3 : _} {di3 : _} {ka3 : _} {kb3 : _} {kc3 : _} {kd3 : _} {ke3 : _} (o3 : K.lookup c3 = some (excClassObj nm3 qn3 c3 nn3 bs3 bm3 true sn3 sb3 ab3 co3 di3 ka3 kb3 kc3 kd3 ke3 "ValueError.__new__"))
    (r3 : PySem.HandSPX.refsVE bm3 = true)
    {fi3 cda3 cel3 : Addr} {ioc3 ikv3 idc3 ipm3 ict3 iccl3 icl3 : Value} {iod3 ian3 icd3 ild3 : Option Addr} {isl3 ics3 ill3 : Array (Option Value)} {ivs3 : Array Value} {ifl3 : Str} {itf3 : Tok} (ii3 : PySem.W.findIn K (.ref c3) "__init__" = some (some (.ref fi3)))
    (it3 : PySem.W.typeIn K (.ref fi3) = some (.type "function"))
    (is3 : PySem.W.findIn K (.ref c3) "__setattr__" = some (some (.builtin "object.__setattr__")))
    (il3 : K.lookup fi3 = some ⟨ioc3, iod3, .func (PySem.W.ksFn "__init__" "TooMany.__init__" (defArgs s_TooMany) (defBody s_TooMany) (defScope s_TooMany) .none ikv3 idc3 ipm3 ian3 (.ref cda3) ict3 cel3), isl3⟩)
    (ic3 : PySem.W.codeIn K (.ref cda3) "TooMany.__init__" = true)
    (id3 : K.lookup cda3 = some ⟨iccl3, icd3, .fields ivs3, ics3⟩)
    (iv3 : ivs3[2]? = some (.str ifl3 itf3))
    (ig3 : ((l.prog.main.file : Str) == ifl3) = true)
    (ie3 : K.lookup cel3 = some ⟨icl3, ild3, .cell (some (.ref c3)), ill3⟩)
    (iq3 : PySem.W.ks_superIn K c3 c3 "__init__" = some (some (.builtin "ValueError.__init__")))
    (iw3 : PySem.W.subIn K (.ref c3) (.type "ValueError") = some true)
    (ix3 : PySem.W.mroIn K c3 (.ref c3) = some true)
    (n3_what : PySem.W.findIn K (.ref c3) "what" = some none)
    (n3_most : PySem.W.findIn K (.ref c3) "most" = some none)
    (cg4 : PySem.W.nsIn K mainGlobals "BadProgram" = some (some (.ref c4)))
    (hg4 : PySem.W.findIn K (.ref c4) "__getattribute__" = some (some (.builtin "BaseException.__getattribute__")))
    (hk4 : PySem.W.findIn K (.ref c4) "__getattr__" = some none)
    (hs4 : PySem.W.subIn K (.ref c4) (.type "BaseException") = some true)
    (hd4 : PySem.W.hasDictIn K c4 = true)
    (hc4 : PySem.W.findIn K (.ref c4) "__class__" = some (some (.builtin "object.__class__")))
    (hm4 : PySem.W.mroIn K c4 (.type "object") = some true)
    (ht4 : PySem.W.typeIn K (.ref c4) = some (.type "type"))
    (hp4 : PySem.W.keepIn K (.ref c4) = true)
    (hx4 : PySem.W.findIn K (.ref c4) "__str__" = some (some (.builtin "BaseException.__str__")))
    {nm4 : _} {qn4 : _} {nn4 : _} {bs4 : _} {bm4 : _} {sn4 : _} {sb4 : _} {ab4 : _} {co4 : _} {di4 : _} {ka4 : _} {kb4 : _} {kc4 : _} {kd4 : _} {ke4 : _} (o4 : K.lookup c4 = some (excClassObj nm4 qn4 c4 nn4 bs4 bm4 true sn4 sb4 ab4 co4 di4 ka4 kb4 kc4 kd4 ke4 "ValueError.__new__"))
    (r4 : PySem.HandSPX.refsVE bm4 = true)
    {fi4 cda4 cel4 : Addr} {ioc4 ikv4 idc4 ipm4 ict4 iccl4 icl4 : Value} {iod4 ian4 icd4 ild4 : Option Addr} {isl4 ics4 ill4 : Array (Option Value)} {ivs4 : Array Value} {ifl4 : Str} {itf4 : Tok} (ii4 : PySem.W.findIn K (.ref c4) "__init__" = some (some (.ref fi4)))
    (it4 : PySem.W.typeIn K (.ref fi4) = some (.type "function"))
    (is4 : PySem.W.findIn K (.ref c4) "__setattr__" = some (some (.builtin "object.__setattr__")))
    (il4 : K.lookup fi4 = some ⟨ioc4, iod4, .func (PySem.W.ksFn "__init__" "BadProgram.__init__" (defArgs s_BadProgram) (defBody s_BadProgram) (defScope s_BadProgram) .none ikv4 idc4 ipm4 ian4 (.ref cda4) ict4 cel4), isl4⟩)
    (ic4 : PySem.W.codeIn K (.ref cda4) "BadProgram.__init__" = true)
    (id4 : K.lookup cda4 = some ⟨iccl4, icd4, .fields ivs4, ics4⟩)
    (iv4 : ivs4[2]? = some (.str ifl4 itf4))
    (ig4 : ((l.prog.main.file : Str) == ifl4) = true)
    (ie4 : K.lookup cel4 = some ⟨icl4, ild4, .cell (some (.ref c4)), ill4⟩)
    (iq4 : PySem.W.ks_superIn K c4 c4 "__init__" = some (some (.builtin "ValueError.__init__")))
    (iw4 : PySem.W.subIn K (.ref c4) (.type "ValueError") = some true)
    (ix4 : PySem.W.mroIn K c4 (.ref c4) = some true)
    (n4_part : PySem.W.findIn K (.ref c4) "part" = some none)
    (cg5 : PySem.W.nsIn K mainGlobals "OtherFields" = some (some (.ref c5)))
    (hg5 : PySem.W.findIn K (.ref c5) "__getattribute__" = some (some (.builtin "BaseException.__getattribute__")))
    (hk5 : PySem.W.findIn K (.ref c5) "__getattr__" = some none)
    (hs5 : PySem.W.subIn K (.ref c5) (.type "BaseException") = some true)
    (hd5 : PySem.W.hasDictIn K c5 = true)
    (hc5 : PySem.W.findIn K (.ref c5) "__class__" = some (some (.builtin "object.__class__")))
    (hm5 : PySem.W.mroIn K c5 (.type "object") = some true)
    (ht5 : PySem.W.typeIn K (.ref c5) = some (.type "type"))
    (hp5 : PySem.W.keepIn K (.ref c5) = true)
    (hx5 : PySem.W.findIn K (.ref c5) "__str__" = some (some (.builtin "BaseException.__str__")))
    (ex5 : PySem.W.excIn K c5 bmV "ValueError.__new__" = true)
    (cg6 : PySem.W.nsIn K mainGlobals "BadTest" = some (some (.ref c6)))
    (hg6 : PySem.W.findIn K (.ref c6) "__getattribute__" = some (some (.builtin "BaseException.__getattribute__")))
    (hk6 : PySem.W.findIn K (.ref c6) "__getattr__" = some none)
    (hs6 : PySem.W.subIn K (.ref c6) (.type "BaseException") = some true)
    (hd6 : PySem.W.hasDictIn K c6 = true)
    (hc6 : PySem.W.findIn K (.ref c6) "__class__" = some (some (.builtin "object.__class__")))
    (hm6 : PySem.W.mroIn K c6 (.type "object") = some true)
    (ht6 : PySem.W.typeIn K (.ref c6) = some (.type "type"))
    (hp6 : PySem.W.keepIn K (.ref c6) = true)
    (hx6 : PySem.W.findIn K (.ref c6) "__str__" = some (some (.builtin "BaseException.__str__")))
    {nm6 : _} {qn6 : _} {nn6 : _} {bs6 : _} {bm6 : _} {sn6 : _} {sb6 : _} {ab6 : _} {co6 : _} {di6 : _} {ka6 : _} {kb6 : _} {kc6 : _} {kd6 : _} {ke6 : _} (o6 : K.lookup c6 = some (excClassObj nm6 qn6 c6 nn6 bs6 bm6 true sn6 sb6 ab6 co6 di6 ka6 kb6 kc6 kd6 ke6 "ValueError.__new__"))
    (r6 : PySem.HandSPX.refsVE bm6 = true)
    {fi6 cda6 cel6 : Addr} {ioc6 ikv6 idc6 ipm6 ict6 iccl6 icl6 : Value} {iod6 ian6 icd6 ild6 : Option Addr} {isl6 ics6 ill6 : Array (Option Value)} {ivs6 : Array Value} {ifl6 : Str} {itf6 : Tok} (ii6 : PySem.W.findIn K (.ref c6) "__init__" = some (some (.ref fi6)))
    (it6 : PySem.W.typeIn K (.ref fi6) = some (.type "function"))
    (is6 : PySem.W.findIn K (.ref c6) "__setattr__" = some (some (.builtin "object.__setattr__")))
    (il6 : K.lookup fi6 = some ⟨ioc6, iod6, .func (PySem.W.ksFn "__init__" "BadTest.__init__" (defArgs s_BadTest) (defBody s_BadTest) (defScope s_BadTest) .none ikv6 idc6 ipm6 ian6 (.ref cda6) ict6 cel6), isl6⟩)
    (ic6 : PySem.W.codeIn K (.ref cda6) "BadTest.__init__" = true)
    (id6 : K.lookup cda6 = some ⟨iccl6, icd6, .fields ivs6, ics6⟩)
    (iv6 : ivs6[2]? = some (.str ifl6 itf6))
    (ig6 : ((l.prog.main.file : Str) == ifl6) = true)
    (ie6 : K.lookup cel6 = some ⟨icl6, ild6, .cell (some (.ref c6)), ill6⟩)
    (iq6 : PySem.W.ks_superIn K c6 c6 "__init__" = some (some (.builtin "ValueError.__init__")))
    (iw6 : PySem.W.subIn K (.ref c6) (.type "ValueError") = some true)
    (ix6 : PySem.W.mroIn K c6 (.ref c6) = some true)
    (n6_part : PySem.W.findIn K (.ref c6) "part" = some none)
    (cg7 : PySem.W.nsIn K mainGlobals "BadPacket" = some (some (.ref c7)))
    (hg7 : PySem.W.findIn K (.ref c7) "__getattribute__" = some (some (.builtin "BaseException.__getattribute__")))
    (hk7 : PySem.W.findIn K (.ref c7) "__getattr__" = some none)
    (hs7 : PySem.W.subIn K (.ref c7) (.type "BaseException") = some true)
    (hd7 : PySem.W.hasDictIn K c7 = true)
    (hc7 : PySem.W.findIn K (.ref c7) "__class__" = some (some (.builtin "object.__class__")))
    (hm7 : PySem.W.mroIn K c7 (.type "object") = some true)
    (ht7 : PySem.W.typeIn K (.ref c7) = some (.type "type"))
    (hp7 : PySem.W.keepIn K (.ref c7) = true)
    (hx7 : PySem.W.findIn K (.ref c7) "__str__" = some (some (.builtin "BaseException.__str__")))
    {nm7 : _} {qn7 : _} {nn7 : _} {bs7 : _} {bm7 : _} {sn7 : _} {sb7 : _} {ab7 : _} {co7 : _} {di7 : _} {ka7 : _} {kb7 : _} {kc7 : _} {kd7 : _} {ke7 : _} (o7 : K.lookup c7 = some (excClassObj nm7 qn7 c7 nn7 bs7 bm7 true sn7 sb7 ab7 co7 di7 ka7 kb7 kc7 kd7 ke7 "ValueError.__new__"))
    (r7 : PySem.HandSPX.refsVE bm7 = true)
    {fi7 cda7 cel7 : Addr} {ioc7 ikv7 idc7 ipm7 ict7 iccl7 icl7 : Value} {iod7 ian7 icd7 ild7 : Option Addr} {isl7 ics7 ill7 : Array (Option Value)} {ivs7 : Array Value} {ifl7 : Str} {itf7 : Tok} (ii7 : PySem.W.findIn K (.ref c7) "__init__" = some (some (.ref fi7)))
    (it7 : PySem.W.typeIn K (.ref fi7) = some (.type "function"))
    (is7 : PySem.W.findIn K (.ref c7) "__setattr__" = some (some (.builtin "object.__setattr__")))
    (il7 : K.lookup fi7 = some ⟨ioc7, iod7, .func (PySem.W.ksFn "__init__" "BadPacket.__init__" (defArgs s_BadPacket) (defBody s_BadPacket) (defScope s_BadPacket) .none ikv7 idc7 ipm7 ian7 (.ref cda7) ict7 cel7), isl7⟩)
    (ic7 : PySem.W.codeIn K (.ref cda7) "BadPacket.__init__" = true)
    (id7 : K.lookup cda7 = some ⟨iccl7, icd7, .fields ivs7, ics7⟩)
    (iv7 : ivs7[2]? = some (.str ifl7 itf7))
    (ig7 : ((l.prog.main.file : Str) == ifl7) = true)
    (ie7 : K.lookup cel7 = some ⟨icl7, ild7, .cell (some (.ref c7)), ill7⟩)
    (iq7 : PySem.W.ks_superIn K c7 c7 "__init__" = some (some (.builtin "ValueError.__init__")))
    (iw7 : PySem.W.subIn K (.ref c7) (.type "ValueError") = some true)
    (ix7 : PySem.W.mroIn K c7 (.ref c7) = some true)
    (n7_packet : PySem.W.findIn K (.ref c7) "packet" = some none)
    (cg8 : PySem.W.nsIn K mainGlobals "BadMost" = some (some (.ref c8)))
    (hg8 : PySem.W.findIn K (.ref c8) "__getattribute__" = some (some (.builtin "BaseException.__getattribute__")))
    (hk8 : PySem.W.findIn K (.ref c8) "__getattr__" = some none)
    (hs8 : PySem.W.subIn K (.ref c8) (.type "BaseException") = some true)
    (hd8 : PySem.W.hasDictIn K c8 = true)
    (hc8 : PySem.W.findIn K (.ref c8) "__class__" = some (some (.builtin "object.__class__")))
    (hm8 : PySem.W.mroIn K c8 (.type "object") = some true)
    (ht8 : PySem.W.typeIn K (.ref c8) = some (.type "type"))
    (hp8 : PySem.W.keepIn K (.ref c8) = true)
    (hx8 : PySem.W.findIn K (.ref c8) "__str__" = some (some (.builtin "BaseException.__str__")))
    {nm8 : _} {qn8 : _} {nn8 : _} {bs8 : _} {bm8 : _} {sn8 : _} {sb8 : _} {ab8 : _} {co8 : _} {di8 : _} {ka8 : _} {kb8 : _} {kc8 : _} {kd8 : _} {ke8 : _} (o8 : K.lookup c8 = some (excClassObj nm8 qn8 c8 nn8 bs8 bm8 true sn8 sb8 ab8 co8 di8 ka8 kb8 kc8 kd8 ke8 "ValueError.__new__"))
    (r8 : PySem.HandSPX.refsVE bm8 = true)
    {fi8 cda8 cel8 : Addr} {ioc8 ikv8 idc8 ipm8 ict8 iccl8 icl8 : Value} {iod8 ian8 icd8 ild8 : Option Addr} {isl8 ics8 ill8 : Array (Option Value)} {ivs8 : Array Value} {ifl8 : Str} {itf8 : Tok} (ii8 : PySem.W.findIn K (.ref c8) "__init__" = some (some (.ref fi8)))
    (it8 : PySem.W.typeIn K (.ref fi8) = some (.type "function"))
    (is8 : PySem.W.findIn K (.ref c8) "__setattr__" = some (some (.builtin "object.__setattr__")))
    (il8 : K.lookup fi8 = some ⟨ioc8, iod8, .func (PySem.W.ksFn "__init__" "BadMost.__init__" (defArgs s_BadMost) (defBody s_BadMost) (defScope s_BadMost) .none ikv8 idc8 ipm8 ian8 (.ref cda8) ict8 cel8), isl8⟩)
    (ic8 : PySem.W.codeIn K (.ref cda8) "BadMost.__init__" = true)
    (id8 : K.lookup cda8 = some ⟨iccl8, icd8, .fields ivs8, ics8⟩)
    (iv8 : ivs8[2]? = some (.str ifl8 itf8))
    (ig8 : ((l.prog.main.file : Str) == ifl8) = true)
    (ie8 : K.lookup cel8 = some ⟨icl8, ild8, .cell (some (.ref c8)), ill8⟩)
    (iq8 : PySem.W.ks_superIn K c8 c8 "__init__" = some (some (.builtin "ValueError.__init__")))
    (iw8 : PySem.W.subIn K (.ref c8) (.type "ValueError") = some true)
    (ix8 : PySem.W.mroIn K c8 (.ref c8) = some true)
    (n8_most : PySem.W.findIn K (.ref c8) "most" = some none)
    (cg9 : PySem.W.nsIn K mainGlobals "NoPlace" = some (some (.ref c9)))
    (hg9 : PySem.W.findIn K (.ref c9) "__getattribute__" = some (some (.builtin "BaseException.__getattribute__")))
    (hk9 : PySem.W.findIn K (.ref c9) "__getattr__" = some none)
    (hs9 : PySem.W.subIn K (.ref c9) (.type "BaseException") = some true)
    (hd9 : PySem.W.hasDictIn K c9 = true)
    (hc9 : PySem.W.findIn K (.ref c9) "__class__" = some (some (.builtin "object.__class__")))
    (hm9 : PySem.W.mroIn K c9 (.type "object") = some true)
    (ht9 : PySem.W.typeIn K (.ref c9) = some (.type "type"))
    (hp9 : PySem.W.keepIn K (.ref c9) = true)
    (hx9 : PySem.W.findIn K (.ref c9) "__str__" = some (some (.builtin "BaseException.__str__")))
    {nm9 : _} {qn9 : _} {nn9 : _} {bs9 : _} {bm9 : _} {sn9 : _} {sb9 : _} {ab9 : _} {co9 : _} {di9 : _} {ka9 : _} {kb9 : _} {kc9 : _} {kd9 : _} {ke9 : _} (o9 : K.lookup c9 = some (excClassObj nm9 qn9 c9 nn9 bs9 bm9 true sn9 sb9 ab9 co9 di9 ka9 kb9 kc9 kd9 ke9 "ValueError.__new__"))
    (r9 : PySem.HandSPX.refsVE bm9 = true)
    {fi9 cda9 cel9 : Addr} {ioc9 ikv9 idc9 ipm9 ict9 iccl9 icl9 : Value} {iod9 ian9 icd9 ild9 : Option Addr} {isl9 ics9 ill9 : Array (Option Value)} {ivs9 : Array Value} {ifl9 : Str} {itf9 : Tok} (ii9 : PySem.W.findIn K (.ref c9) "__init__" = some (some (.ref fi9)))
    (it9 : PySem.W.typeIn K (.ref fi9) = some (.type "function"))
    (is9 : PySem.W.findIn K (.ref c9) "__setattr__" = some (some (.builtin "object.__setattr__")))
    (il9 : K.lookup fi9 = some ⟨ioc9, iod9, .func (PySem.W.ksFn "__init__" "NoPlace.__init__" (defArgs s_NoPlace) (defBody s_NoPlace) (defScope s_NoPlace) .none ikv9 idc9 ipm9 ian9 (.ref cda9) ict9 cel9), isl9⟩)
    (ic9 : PySem.W.codeIn K (.ref cda9) "NoPlace.__init__" = true)
    (id9 : K.lookup cda9 = some ⟨iccl9, icd9, .fields ivs9, ics9⟩)
    (iv9 : ivs9[2]? = some (.str ifl9 itf9))
    (ig9 : ((l.prog.main.file : Str) == ifl9) = true)
    (ie9 : K.lookup cel9 = some ⟨icl9, ild9, .cell (some (.ref c9)), ill9⟩)
    (iq9 : PySem.W.ks_superIn K c9 c9 "__init__" = some (some (.builtin "ValueError.__init__")))
    (iw9 : PySem.W.subIn K (.ref c9) (.type "ValueError") = some true)
    (ix9 : PySem.W.mroIn K c9 (.ref c9) = some true)
    (n9_place : PySem.W.findIn K (.ref c9) "place" = some none)
    (cg10 : PySem.W.nsIn K mainGlobals "BadWord" = some (some (.ref c10)))
    (hg10 : PySem.W.findIn K (.ref c10) "__getattribute__" = some (some (.builtin "BaseException.__getattribute__")))
    (hk10 : PySem.W.findIn K (.ref c10) "__getattr__" = some none)
    (hs10 : PySem.W.subIn K (.ref c10) (.type "BaseException") = some true)
    (hd10 : PySem.W.hasDictIn K c10 = true)
    (hc10 : PySem.W.findIn K (.ref c10) "__class__" = some (some (.builtin "object.__class__")))
    (hm10 : PySem.W.mroIn K c10 (.type "object") = some true)
    (ht10 : PySem.W.typeIn K (.ref c10) = some (.type "type"))
    (hp10 : PySem.W.keepIn K (.ref c10) = true)
    (hx10 : PySem.W.findIn K (.ref c10) "__str__" = some (some (.builtin "BaseException.__str__")))
    {nm10 : _} {qn10 : _} {nn10 : _} {bs10 : _} {bm10 : _} {sn10 : _} {sb10 : _} {ab10 : _} {co10 : _} {di10 : _} {ka10 : _} {kb10 : _} {kc10 : _} {kd10 : _} {ke10 : _} (o10 : K.lookup c10 = some (excClassObj nm10 qn10 c10 nn10 bs10 bm10 true sn10 sb10 ab10 co10 di10 ka10 kb10 kc10 kd10 ke10 "ValueError.__new__"))
    (r10 : PySem.HandSPX.refsVE bm10 = true)
    {fi10 cda10 cel10 : Addr} {ioc10 ikv10 idc10 ipm10 ict10 iccl10 icl10 : Value} {iod10 ian10 icd10 ild10 : Option Addr} {isl10 ics10 ill10 : Array (Option Value)} {ivs10 : Array Value} {ifl10 : Str} {itf10 : Tok} (ii10 : PySem.W.findIn K (.ref c10) "__init__" = some (some (.ref fi10)))
    (it10 : PySem.W.typeIn K (.ref fi10) = some (.type "function"))
    (is10 : PySem.W.findIn K (.ref c10) "__setattr__" = some (some (.builtin "object.__setattr__")))
    (il10 : K.lookup fi10 = some ⟨ioc10, iod10, .func (PySem.W.ksFn "__init__" "BadWord.__init__" (defArgs s_BadWord) (defBody s_BadWord) (defScope s_BadWord) .none ikv10 idc10 ipm10 ian10 (.ref cda10) ict10 cel10), isl10⟩)
    (ic10 : PySem.W.codeIn K (.ref cda10) "BadWord.__init__" = true)
    (id10 : K.lookup cda10 = some ⟨iccl10, icd10, .fields ivs10, ics10⟩)
    (iv10 : ivs10[2]? = some (.str ifl10 itf10))
    (ig10 : ((l.prog.main.file : Str) == ifl10) = true)
    (ie10 : K.lookup cel10 = some ⟨icl10, ild10, .cell (some (.ref c10)), ill10⟩)
    (iq10 : PySem.W.ks_superIn K c10 c10 "__init__" = some (some (.builtin "ValueError.__init__")))
    (iw10 : PySem.W.subIn K (.ref c10) (.type "ValueError") = some true)
    (ix10 : PySem.W.mroIn K c10 (.ref c10) = some true)
    (n10_word : PySem.W.findIn K (.ref c10) "word" = some none)
    (cg11 : PySem.W.nsIn K mainGlobals "BadTests" = some (some (.ref c11)))
    (hg11 : PySem.W.findIn K (.ref c11) "__getattribute__" = some (some (.builtin "BaseException.__getattribute__")))
    (hk11 : PySem.W.findIn K (.ref c11) "__getattr__" = some none)
    (hs11 : PySem.W.subIn K (.ref c11) (.type "BaseException") = some true)
    (hd11 : PySem.W.hasDictIn K c11 = true)
    (hc11 : PySem.W.findIn K (.ref c11) "__class__" = some (some (.builtin "object.__class__")))
    (hm11 : PySem.W.mroIn K c11 (.type "object") = some true)
    (ht11 : PySem.W.typeIn K (.ref c11) = some (.type "type"))
    (hp11 : PySem.W.keepIn K (.ref c11) = true)
    (hx11 : PySem.W.findIn K (.ref c11) "__str__" = some (some (.builtin "BaseException.__str__")))
    {nm11 : _} {qn11 : _} {nn11 : _} {bs11 : _} {bm11 : _} {sn11 : _} {sb11 : _} {ab11 : _} {co11 : _} {di11 : _} {ka11 : _} {kb11 : _} {kc11 : _} {kd11 : _} {ke11 : _} (o11 : K.lookup c11 = some (excClassObj nm11 qn11 c11 nn11 bs11 bm11 true sn11 sb11 ab11 co11 di11 ka11 kb11 kc11 kd11 ke11 "ValueError.__new__"))
    (r11 : PySem.HandSPX.refsVE bm11 = true)
    {fi11 cda11 cel11 : Addr} {ioc11 ikv11 idc11 ipm11 ict11 iccl11 icl11 : Value} {iod11 ian11 icd11 ild11 : Option Addr} {isl11 ics11 ill11 : Array (Option Value)} {ivs11 : Array Value} {ifl11 : Str} {itf11 : Tok} (ii11 : PySem.W.findIn K (.ref c11) "__init__" = some (some (.ref fi11)))
    (it11 : PySem.W.typeIn K (.ref fi11) = some (.type "function"))
    (is11 : PySem.W.findIn K (.ref c11) "__setattr__" = some (some (.builtin "object.__setattr__")))
    (il11 : K.lookup fi11 = some ⟨ioc11, iod11, .func (PySem.W.ksFn "__init__" "BadTests.__init__" (defArgs s_BadTests) (defBody s_BadTests) (defScope s_BadTests) .none ikv11 idc11 ipm11 ian11 (.ref cda11) ict11 cel11), isl11⟩)
    (ic11 : PySem.W.codeIn K (.ref cda11) "BadTests.__init__" = true)
    (id11 : K.lookup cda11 = some ⟨iccl11, icd11, .fields ivs11, ics11⟩)
    (iv11 : ivs11[2]? = some (.str ifl11 itf11))
    (ig11 : ((l.prog.main.file : Str) == ifl11) = true)
    (ie11 : K.lookup cel11 = some ⟨icl11, ild11, .cell (some (.ref c11)), ill11⟩)
    (iq11 : PySem.W.ks_superIn K c11 c11 "__init__" = some (some (.builtin "ValueError.__init__")))
    (iw11 : PySem.W.subIn K (.ref c11) (.type "ValueError") = some true)
    (ix11 : PySem.W.mroIn K c11 (.ref c11) = some true)
    (n11_at : PySem.W.findIn K (.ref c11) "at" = some none)
    (cg12 : PySem.W.nsIn K mainGlobals "NoPart" = some (some (.ref c12)))
    (hg12 : PySem.W.findIn K (.ref c12) "__getattribute__" = some (some (.builtin "BaseException.__getattribute__")))
    (hk12 : PySem.W.findIn K (.ref c12) "__getattr__" = some none)
    (hs12 : PySem.W.subIn K (.ref c12) (.type "BaseException") = some true)
    (hd12 : PySem.W.hasDictIn K c12 = true)
    (hc12 : PySem.W.findIn K (.ref c12) "__class__" = some (some (.builtin "object.__class__")))
    (hm12 : PySem.W.mroIn K c12 (.type "object") = some true)
    (ht12 : PySem.W.typeIn K (.ref c12) = some (.type "type"))
    (hp12 : PySem.W.keepIn K (.ref c12) = true)
    (hx12 : PySem.W.findIn K (.ref c12) "__str__" = some (some (.builtin "BaseException.__str__")))
    {nm12 : _} {qn12 : _} {nn12 : _} {bs12 : _} {bm12 : _} {sn12 : _} {sb12 : _} {ab12 : _} {co12 : _} {di12 : _} {ka12 : _} {kb12 : _} {kc12 : _} {kd12 : _} {ke12 : _} (o12 : K.lookup c12 = some (excClassObj nm12 qn12 c12 nn12 bs12 bm12 true sn12 sb12 ab12 co12 di12 ka12 kb12 kc12 kd12 ke12 "ValueError.__new__"))
    (r12 : PySem.HandSPX.refsVE bm12 = true)
    {fi12 cda12 cel12 : Addr} {ioc12 ikv12 idc12 ipm12 ict12 iccl12 icl12 : Value} {iod12 ian12 icd12 ild12 : Option Addr} {isl12 ics12 ill12 : Array (Option Value)} {ivs12 : Array Value} {ifl12 : Str} {itf12 : Tok} (ii12 : PySem.W.findIn K (.ref c12) "__init__" = some (some (.ref fi12)))
    (it12 : PySem.W.typeIn K (.ref fi12) = some (.type "function"))
    (is12 : PySem.W.findIn K (.ref c12) "__setattr__" = some (some (.builtin "object.__setattr__")))
    (il12 : K.lookup fi12 = some ⟨ioc12, iod12, .func (PySem.W.ksFn "__init__" "NoPart.__init__" (defArgs s_NoPart) (defBody s_NoPart) (defScope s_NoPart) .none ikv12 idc12 ipm12 ian12 (.ref cda12) ict12 cel12), isl12⟩)
    (ic12 : PySem.W.codeIn K (.ref cda12) "NoPart.__init__" = true)
    (id12 : K.lookup cda12 = some ⟨iccl12, icd12, .fields ivs12, ics12⟩)
    (iv12 : ivs12[2]? = some (.str ifl12 itf12))
    (ig12 : ((l.prog.main.file : Str) == ifl12) = true)
    (ie12 : K.lookup cel12 = some ⟨icl12, ild12, .cell (some (.ref c12)), ill12⟩)
    (iq12 : PySem.W.ks_superIn K c12 c12 "__init__" = some (some (.builtin "ValueError.__init__")))
    (iw12 : PySem.W.subIn K (.ref c12) (.type "ValueError") = some true)
    (ix12 : PySem.W.mroIn K c12 (.ref c12) = some true)
    (n12_path : PySem.W.findIn K (.ref c12) "path" = some none)
    (cg13 : PySem.W.nsIn K mainGlobals "BadLot" = some (some (.ref c13)))
    (hg13 : PySem.W.findIn K (.ref c13) "__getattribute__" = some (some (.builtin "BaseException.__getattribute__")))
    (hk13 : PySem.W.findIn K (.ref c13) "__getattr__" = some none)
    (hs13 : PySem.W.subIn K (.ref c13) (.type "BaseException") = some true)
    (hd13 : PySem.W.hasDictIn K c13 = true)
    (hc13 : PySem.W.findIn K (.ref c13) "__class__" = some (some (.builtin "object.__class__")))
    (hm13 : PySem.W.mroIn K c13 (.type "object") = some true)
    (ht13 : PySem.W.typeIn K (.ref c13) = some (.type "type"))
    (hp13 : PySem.W.keepIn K (.ref c13) = true)
    (hx13 : PySem.W.findIn K (.ref c13) "__str__" = some (some (.builtin "BaseException.__str__")))
    (ex13 : PySem.W.excIn K c13 bmV "ValueError.__new__" = true)
    (cg14 : PySem.W.nsIn K mainGlobals "BadNet" = some (some (.ref c14)))
    (hg14 : PySem.W.findIn K (.ref c14) "__getattribute__" = some (some (.builtin "BaseException.__getattribute__")))
    (hk14 : PySem.W.findIn K (.ref c14) "__getattr__" = some none)
    (hs14 : PySem.W.subIn K (.ref c14) (.type "BaseException") = some true)
    (hd14 : PySem.W.hasDictIn K c14 = true)
    (hc14 : PySem.W.findIn K (.ref c14) "__class__" = some (some (.builtin "object.__class__")))
    (hm14 : PySem.W.mroIn K c14 (.type "object") = some true)
    (ht14 : PySem.W.typeIn K (.ref c14) = some (.type "type"))
    (hp14 : PySem.W.keepIn K (.ref c14) = true)
    (hx14 : PySem.W.findIn K (.ref c14) "__str__" = some (some (.builtin "BaseException.__str__")))
    {nm14 : _} {qn14 : _} {nn14 : _} {bs14 : _} {bm14 : _} {sn14 : _} {sb14 : _} {ab14 : _} {co14 : _} {di14 : _} {ka14 : _} {kb14 : _} {kc14 : _} {kd14 : _} {ke14 : _} (o14 : K.lookup c14 = some (excClassObj nm14 qn14 c14 nn14 bs14 bm14 true sn14 sb14 ab14 co14 di14 ka14 kb14 kc14 kd14 ke14 "ValueError.__new__"))
    (r14 : PySem.HandSPX.refsVE bm14 = true)
    {fi14 cda14 cel14 : Addr} {ioc14 ikv14 idc14 ipm14 ict14 iccl14 icl14 : Value} {iod14 ian14 icd14 ild14 : Option Addr} {isl14 ics14 ill14 : Array (Option Value)} {ivs14 : Array Value} {ifl14 : Str} {itf14 : Tok} (ii14 : PySem.W.findIn K (.ref c14) "__init__" = some (some (.ref fi14)))
    (it14 : PySem.W.typeIn K (.ref fi14) = some (.type "function"))
    (is14 : PySem.W.findIn K (.ref c14) "__setattr__" = some (some (.builtin "object.__setattr__")))
    (il14 : K.lookup fi14 = some ⟨ioc14, iod14, .func (PySem.W.ksFn "__init__" "BadNet.__init__" (defArgs s_BadNet) (defBody s_BadNet) (defScope s_BadNet) .none ikv14 idc14 ipm14 ian14 (.ref cda14) ict14 cel14), isl14⟩)
    (ic14 : PySem.W.codeIn K (.ref cda14) "BadNet.__init__" = true)
    (id14 : K.lookup cda14 = some ⟨iccl14, icd14, .fields ivs14, ics14⟩)
    (iv14 : ivs14[2]? = some (.str ifl14 itf14))
    (ig14 : ((l.prog.main.file : Str) == ifl14) = true)
    (ie14 : K.lookup cel14 = some ⟨icl14, ild14, .cell (some (.ref c14)), ill14⟩)
    (iq14 : PySem.W.ks_superIn K c14 c14 "__init__" = some (some (.builtin "ValueError.__init__")))
    (iw14 : PySem.W.subIn K (.ref c14) (.type "ValueError") = some true)
    (ix14 : PySem.W.mroIn K c14 (.ref c14) = some true)
    (n14_part : PySem.W.findIn K (.ref c14) "part" = some none)
    (cg15 : PySem.W.nsIn K mainGlobals "BadRule" = some (some (.ref c15)))
    (hg15 : PySem.W.findIn K (.ref c15) "__getattribute__" = some (some (.builtin "BaseException.__getattribute__")))
    (hk15 : PySem.W.findIn K (.ref c15) "__getattr__" = some none)
    (hs15 : PySem.W.subIn K (.ref c15) (.type "BaseException") = some true)
    (hd15 : PySem.W.hasDictIn K c15 = true)
    (hc15 : PySem.W.findIn K (.ref c15) "__class__" = some (some (.builtin "object.__class__")))
    (hm15 : PySem.W.mroIn K c15 (.type "object") = some true)
    (ht15 : PySem.W.typeIn K (.ref c15) = some (.type "type"))
    (hp15 : PySem.W.keepIn K (.ref c15) = true)
    (hx15 : PySem.W.findIn K (.ref c15) "__str__" = some (some (.builtin "BaseException.__str__")))
    {nm15 : _} {qn15 : _} {nn15 : _} {bs15 : _} {bm15 : _} {sn15 : _} {sb15 : _} {ab15 : _} {co15 : _} {di15 : _} {ka15 : _} {kb15 : _} {kc15 : _} {kd15 : _} {ke15 : _} (o15 : K.lookup c15 = some (excClassObj nm15 qn15 c15 nn15 bs15 bm15 true sn15 sb15 ab15 co15 di15 ka15 kb15 kc15 kd15 ke15 "ValueError.__new__"))
    (r15 : PySem.HandSPX.refsVE bm15 = true)
    {fi15 cda15 cel15 : Addr} {ioc15 ikv15 idc15 ipm15 ict15 iccl15 icl15 : Value} {iod15 ian15 icd15 ild15 : Option Addr} {isl15 ics15 ill15 : Array (Option Value)} {ivs15 : Array Value} {ifl15 : Str} {itf15 : Tok} (ii15 : PySem.W.findIn K (.ref c15) "__init__" = some (some (.ref fi15)))
    (it15 : PySem.W.typeIn K (.ref fi15) = some (.type "function"))
    (is15 : PySem.W.findIn K (.ref c15) "__setattr__" = some (some (.builtin "object.__setattr__")))
    (il15 : K.lookup fi15 = some ⟨ioc15, iod15, .func (PySem.W.ksFn "__init__" "BadRule.__init__" (defArgs s_BadRule) (defBody s_BadRule) (defScope s_BadRule) .none ikv15 idc15 ipm15 ian15 (.ref cda15) ict15 cel15), isl15⟩)
    (ic15 : PySem.W.codeIn K (.ref cda15) "BadRule.__init__" = true)
    (id15 : K.lookup cda15 = some ⟨iccl15, icd15, .fields ivs15, ics15⟩)
    (iv15 : ivs15[2]? = some (.str ifl15 itf15))
    (ig15 : ((l.prog.main.file : Str) == ifl15) = true)
    (ie15 : K.lookup cel15 = some ⟨icl15, ild15, .cell (some (.ref c15)), ill15⟩)
    (iq15 : PySem.W.ks_superIn K c15 c15 "__init__" = some (some (.builtin "ValueError.__init__")))
    (iw15 : PySem.W.subIn K (.ref c15) (.type "ValueError") = some true)
    (ix15 : PySem.W.mroIn K c15 (.ref c15) = some true)
    (n15_at : PySem.W.findIn K (.ref c15) "at" = some none)
    (cg16 : PySem.W.nsIn K mainGlobals "BadDeed" = some (some (.ref c16)))
    (hg16 : PySem.W.findIn K (.ref c16) "__getattribute__" = some (some (.builtin "BaseException.__getattribute__")))
    (hk16 : PySem.W.findIn K (.ref c16) "__getattr__" = some none)
    (hs16 : PySem.W.subIn K (.ref c16) (.type "BaseException") = some true)
    (hd16 : PySem.W.hasDictIn K c16 = true)
    (hc16 : PySem.W.findIn K (.ref c16) "__class__" = some (some (.builtin "object.__class__")))
    (hm16 : PySem.W.mroIn K c16 (.type "object") = some true)
    (ht16 : PySem.W.typeIn K (.ref c16) = some (.type "type"))
    (hp16 : PySem.W.keepIn K (.ref c16) = true)
    (hx16 : PySem.W.findIn K (.ref c16) "__str__" = some (some (.builtin "BaseException.__str__")))
    {nm16 : _} {qn16 : _} {nn16 : _} {bs16 : _} {bm16 : _} {sn16 : _} {sb16 : _} {ab16 : _} {co16 : _} {di16 : _} {ka16 : _} {kb16 : _} {kc16 : _} {kd16 : _} {ke16 : _} (o16 : K.lookup c16 = some (excClassObj nm16 qn16 c16 nn16 bs16 bm16 true sn16 sb16 ab16 co16 di16 ka16 kb16 kc16 kd16 ke16 "ValueError.__new__"))
    (r16 : PySem.HandSPX.refsVE bm16 = true)
    {fi16 cda16 cel16 : Addr} {ioc16 ikv16 idc16 ipm16 ict16 iccl16 icl16 : Value} {iod16 ian16 icd16 ild16 : Option Addr} {isl16 ics16 ill16 : Array (Option Value)} {ivs16 : Array Value} {ifl16 : Str} {itf16 : Tok} (ii16 : PySem.W.findIn K (.ref c16) "__init__" = some (some (.ref fi16)))
    (it16 : PySem.W.typeIn K (.ref fi16) = some (.type "function"))
    (is16 : PySem.W.findIn K (.ref c16) "__setattr__" = some (some (.builtin "object.__setattr__")))
    (il16 : K.lookup fi16 = some ⟨ioc16, iod16, .func (PySem.W.ksFn "__init__" "BadDeed.__init__" (defArgs s_BadDeed) (defBody s_BadDeed) (defScope s_BadDeed) .none ikv16 idc16 ipm16 ian16 (.ref cda16) ict16 cel16), isl16⟩)
    (ic16 : PySem.W.codeIn K (.ref cda16) "BadDeed.__init__" = true)
    (id16 : K.lookup cda16 = some ⟨iccl16, icd16, .fields ivs16, ics16⟩)
    (iv16 : ivs16[2]? = some (.str ifl16 itf16))
    (ig16 : ((l.prog.main.file : Str) == ifl16) = true)
    (ie16 : K.lookup cel16 = some ⟨icl16, ild16, .cell (some (.ref c16)), ill16⟩)
    (iq16 : PySem.W.ks_superIn K c16 c16 "__init__" = some (some (.builtin "ValueError.__init__")))
    (iw16 : PySem.W.subIn K (.ref c16) (.type "ValueError") = some true)
    (ix16 : PySem.W.mroIn K c16 (.ref c16) = some true)
    (n16_deed : PySem.W.findIn K (.ref c16) "deed" = some none)
    (cg17 : PySem.W.nsIn K mainGlobals "NothingLeft" = some (some (.ref c17)))
    (hg17 : PySem.W.findIn K (.ref c17) "__getattribute__" = some (some (.builtin "BaseException.__getattribute__")))
    (hk17 : PySem.W.findIn K (.ref c17) "__getattr__" = some none)
    (hs17 : PySem.W.subIn K (.ref c17) (.type "BaseException") = some true)
    (hd17 : PySem.W.hasDictIn K c17 = true)
    (hc17 : PySem.W.findIn K (.ref c17) "__class__" = some (some (.builtin "object.__class__")))
    (hm17 : PySem.W.mroIn K c17 (.type "object") = some true)
    (ht17 : PySem.W.typeIn K (.ref c17) = some (.type "type"))
    (hp17 : PySem.W.keepIn K (.ref c17) = true)
    (hx17 : PySem.W.findIn K (.ref c17) "__str__" = some (some (.builtin "BaseException.__str__")))
    (ex17 : PySem.W.excIn K c17 bmV "ValueError.__new__" = true)
    (cg18 : PySem.W.nsIn K mainGlobals "BadJournal" = some (some (.ref c18)))
    (hg18 : PySem.W.findIn K (.ref c18) "__getattribute__" = some (some (.builtin "BaseException.__getattribute__")))
    (hk18 : PySem.W.findIn K (.ref c18) "__getattr__" = some none)
    (hs18 : PySem.W.subIn K (.ref c18) (.type "BaseException") = some true)
    (hd18 : PySem.W.hasDictIn K c18 = true)
    (hc18 : PySem.W.findIn K (.ref c18) "__class__" = some (some (.builtin "object.__class__")))
    (hm18 : PySem.W.mroIn K c18 (.type "object") = some true)
    (ht18 : PySem.W.typeIn K (.ref c18) = some (.type "type"))
    (hp18 : PySem.W.keepIn K (.ref c18) = true)
    (hx18 : PySem.W.findIn K (.ref c18) "__str__" = some (some (.builtin "BaseException.__str__")))
    {nm18 : _} {qn18 : _} {nn18 : _} {bs18 : _} {bm18 : _} {sn18 : _} {sb18 : _} {ab18 : _} {co18 : _} {di18 : _} {ka18 : _} {kb18 : _} {kc18 : _} {kd18 : _} {ke18 : _} (o18 : K.lookup c18 = some (excClassObj nm18 qn18 c18 nn18 bs18 bm18 true sn18 sb18 ab18 co18 di18 ka18 kb18 kc18 kd18 ke18 "ValueError.__new__"))
    (r18 : PySem.HandSPX.refsVE bm18 = true)
    {fi18 cda18 cel18 : Addr} {ioc18 ikv18 idc18 ipm18 ict18 iccl18 icl18 : Value} {iod18 ian18 icd18 ild18 : Option Addr} {isl18 ics18 ill18 : Array (Option Value)} {ivs18 : Array Value} {ifl18 : Str} {itf18 : Tok} (ii18 : PySem.W.findIn K (.ref c18) "__init__" = some (some (.ref fi18)))
    (it18 : PySem.W.typeIn K (.ref fi18) = some (.type "function"))
    (is18 : PySem.W.findIn K (.ref c18) "__setattr__" = some (some (.builtin "object.__setattr__")))
    (il18 : K.lookup fi18 = some ⟨ioc18, iod18, .func (PySem.W.ksFn "__init__" "BadJournal.__init__" (defArgs s_BadJournal) (defBody s_BadJournal) (defScope s_BadJournal) .none ikv18 idc18 ipm18 ian18 (.ref cda18) ict18 cel18), isl18⟩)
    (ic18 : PySem.W.codeIn K (.ref cda18) "BadJournal.__init__" = true)
    (id18 : K.lookup cda18 = some ⟨iccl18, icd18, .fields ivs18, ics18⟩)
    (iv18 : ivs18[2]? = some (.str ifl18 itf18))
    (ig18 : ((l.prog.main.file : Str) == ifl18) = true)
    (ie18 : K.lookup cel18 = some ⟨icl18, ild18, .cell (some (.ref c18)), ill18⟩)
    (iq18 : PySem.W.ks_superIn K c18 c18 "__init__" = some (some (.builtin "ValueError.__init__")))
    (iw18 : PySem.W.subIn K (.ref c18) (.type "ValueError") = some true)
    (ix18 : PySem.W.mroIn K c18 (.ref c18) = some true)
    (n18_at : PySem.W.findIn K (.ref c18) "at" = some none)
    (cg19 : PySem.W.nsIn K mainGlobals "BadText" = some (some (.ref c19)))
    (hg19 : PySem.W.findIn K (.ref c19) "__getattribute__" = some (some (.builtin "BaseException.__getattribute__")))
    (hk19 : PySem.W.findIn K (.ref c19) "__getattr__" = some none)
    (hs19 : PySem.W.subIn K (.ref c19) (.type "BaseException") = some true)
    (hd19 : PySem.W.hasDictIn K c19 = true)
    (hc19 : PySem.W.findIn K (.ref c19) "__class__" = some (some (.builtin "object.__class__")))
    (hm19 : PySem.W.mroIn K c19 (.type "object") = some true)
    (ht19 : PySem.W.typeIn K (.ref c19) = some (.type "type"))
    (hp19 : PySem.W.keepIn K (.ref c19) = true)
    (hx19 : PySem.W.findIn K (.ref c19) "__str__" = some (some (.builtin "BaseException.__str__")))
    {nm19 : _} {qn19 : _} {nn19 : _} {bs19 : _} {bm19 : _} {sn19 : _} {sb19 : _} {ab19 : _} {co19 : _} {di19 : _} {ka19 : _} {kb19 : _} {kc19 : _} {kd19 : _} {ke19 : _} (o19 : K.lookup c19 = some (excClassObj nm19 qn19 c19 nn19 bs19 bm19 true sn19 sb19 ab19 co19 di19 ka19 kb19 kc19 kd19 ke19 "ValueError.__new__"))
    (r19 : PySem.HandSPX.refsVE bm19 = true)
    {fi19 cda19 cel19 : Addr} {ioc19 ikv19 idc19 ipm19 ict19 iccl19 icl19 : Value} {iod19 ian19 icd19 ild19 : Option Addr} {isl19 ics19 ill19 : Array (Option Value)} {ivs19 : Array Value} {ifl19 : Str} {itf19 : Tok} (ii19 : PySem.W.findIn K (.ref c19) "__init__" = some (some (.ref fi19)))
    (it19 : PySem.W.typeIn K (.ref fi19) = some (.type "function"))
    (is19 : PySem.W.findIn K (.ref c19) "__setattr__" = some (some (.builtin "object.__setattr__")))
    (il19 : K.lookup fi19 = some ⟨ioc19, iod19, .func (PySem.W.ksFn "__init__" "BadText.__init__" (defArgs s_BadText) (defBody s_BadText) (defScope s_BadText) .none ikv19 idc19 ipm19 ian19 (.ref cda19) ict19 cel19), isl19⟩)
    (ic19 : PySem.W.codeIn K (.ref cda19) "BadText.__init__" = true)
    (id19 : K.lookup cda19 = some ⟨iccl19, icd19, .fields ivs19, ics19⟩)
    (iv19 : ivs19[2]? = some (.str ifl19 itf19))
    (ig19 : ((l.prog.main.file : Str) == ifl19) = true)
    (ie19 : K.lookup cel19 = some ⟨icl19, ild19, .cell (some (.ref c19)), ill19⟩)
    (iq19 : PySem.W.ks_superIn K c19 c19 "__init__" = some (some (.builtin "ValueError.__init__")))
    (iw19 : PySem.W.subIn K (.ref c19) (.type "ValueError") = some true)
    (ix19 : PySem.W.mroIn K c19 (.ref c19) = some true)
    (n19_line : PySem.W.findIn K (.ref c19) "line" = some none)
    (cg20 : PySem.W.nsIn K mainGlobals "BadName" = some (some (.ref c20)))
    (hg20 : PySem.W.findIn K (.ref c20) "__getattribute__" = some (some (.builtin "BaseException.__getattribute__")))
    (hk20 : PySem.W.findIn K (.ref c20) "__getattr__" = some none)
    (hs20 : PySem.W.subIn K (.ref c20) (.type "BaseException") = some true)
    (hd20 : PySem.W.hasDictIn K c20 = true)
    (hc20 : PySem.W.findIn K (.ref c20) "__class__" = some (some (.builtin "object.__class__")))
    (hm20 : PySem.W.mroIn K c20 (.type "object") = some true)
    (ht20 : PySem.W.typeIn K (.ref c20) = some (.type "type"))
    (hp20 : PySem.W.keepIn K (.ref c20) = true)
    (hx20 : PySem.W.findIn K (.ref c20) "__str__" = some (some (.builtin "BaseException.__str__")))
    {nm20 : _} {qn20 : _} {nn20 : _} {bs20 : _} {bm20 : _} {sn20 : _} {sb20 : _} {ab20 : _} {co20 : _} {di20 : _} {ka20 : _} {kb20 : _} {kc20 : _} {kd20 : _} {ke20 : _} (o20 : K.lookup c20 = some (excClassObj nm20 qn20 c20 nn20 bs20 bm20 true sn20 sb20 ab20 co20 di20 ka20 kb20 kc20 kd20 ke20 "ValueError.__new__"))
    (r20 : PySem.HandSPX.refsVE bm20 = true)
    {fi20 cda20 cel20 : Addr} {ioc20 ikv20 idc20 ipm20 ict20 iccl20 icl20 : Value} {iod20 ian20 icd20 ild20 : Option Addr} {isl20 ics20 ill20 : Array (Option Value)} {ivs20 : Array Value} {ifl20 : Str} {itf20 : Tok} (ii20 : PySem.W.findIn K (.ref c20) "__init__" = some (some (.ref fi20)))
    (it20 : PySem.W.typeIn K (.ref fi20) = some (.type "function"))
    (is20 : PySem.W.findIn K (.ref c20) "__setattr__" = some (some (.builtin "object.__setattr__")))
    (il20 : K.lookup fi20 = some ⟨ioc20, iod20, .func (PySem.W.ksFn "__init__" "BadName.__init__" (defArgs s_BadName) (defBody s_BadName) (defScope s_BadName) .none ikv20 idc20 ipm20 ian20 (.ref cda20) ict20 cel20), isl20⟩)
    (ic20 : PySem.W.codeIn K (.ref cda20) "BadName.__init__" = true)
    (id20 : K.lookup cda20 = some ⟨iccl20, icd20, .fields ivs20, ics20⟩)
    (iv20 : ivs20[2]? = some (.str ifl20 itf20))
    (ig20 : ((l.prog.main.file : Str) == ifl20) = true)
    (ie20 : K.lookup cel20 = some ⟨icl20, ild20, .cell (some (.ref c20)), ill20⟩)
    (iq20 : PySem.W.ks_superIn K c20 c20 "__init__" = some (some (.builtin "ValueError.__init__")))
    (iw20 : PySem.W.subIn K (.ref c20) (.type "ValueError") = some true)
    (ix20 : PySem.W.mroIn K c20 (.ref c20) = some true)
    (n20_name : PySem.W.findIn K (.ref c20) "name" = some none)
    (pairs : pairB K [c0, c1, c2, c3, c4, c5, c6, c7, c8, c9, c10, c11, c12, c13, c14, c15, c16, c17, c18, c19, c20] = true)
    (fars : farB K CW [c0, c1, c2, c3, c4, c5, c6, c7, c8, c9, c10, c11, c12, c13, c14, c15, c16, c17, c18, c19, c20] = true)
    (ups : upB K CW [c0, c1, c2, c3, c4, c5, c6, c7, c8, c9, c10, c11, c12, c13, c14, c15, c16, c17, c18, c19, c20] = true)
    (wv : PySem.W.kitOne K (.ref CW) (.type "ValueError") = some true) :
    ∃ fd : FuncData, (∀ (s : Shared) (u : Value), BindsTo s fd ⟨[u], []⟩ [("script", u)]) ∧ ∀ base : Heap, K.In base → base.Ns mainGlobals mg → (∃ m, base.Ns sysModules m) → FnG l.prog w K mg base 8 fa fd ["script"] (spLaw K) := by
  have e := hfa.symm.trans (PySem.W.mg_of X G a11)
  cases e
  have F__law_begun := fun_mk (st := s__law_begun) l1 k1 p1
  have F__law_mixed := fun_mk (st := s__law_mixed) l2 k2 p2
  have F__law_take := fun_mk (st := s__law_take) l3 k3 p3
  have F__law_pick := fun_mk (st := s__law_pick) l4 k4 p4
  have F__law_odd := fun_mk (st := s__law_odd) l5 k5 p5
  have F__law_marks := fun_mk (st := s__law_marks) l6 k6 p6
  have F__law_each := fun_mk (st := s__law_each) l7 k7 p7
  have F__law_by_name := fun_mk (st := s__law_by_name) l8 k8 p8
  have F__law_kept := fun_mk (st := s__law_kept) l9 k9 p9
  have F__law_keeping := fun_mk (st := s__law_keeping) l10 k10 p10
  have F_law := fun_mk (st := s_law) l11 k11 p11
  have T : Blt mg := { abs := PySem.W.mg_none_of X G z_abs, int := PySem.W.mg_none_of X G z_int, len := PySem.W.mg_none_of X G z_len, list := PySem.W.mg_none_of X G z_list, tuple := PySem.W.mg_none_of X G z_tuple, range := PySem.W.mg_none_of X G z_range, sorted := PySem.W.mg_none_of X G z_sorted, isinstance := PySem.W.mg_none_of X G z_isinstance, str := PySem.W.mg_none_of X G z_str, bool := PySem.W.mg_none_of X G z_bool, all := PySem.W.mg_none_of X G z_all, set := PySem.W.mg_none_of X G z_set, repr := PySem.W.mg_none_of X G z_repr, min := PySem.W.mg_none_of X G z_min, zip := PySem.W.mg_none_of X G z_zip }
  refine ⟨PySem.W.fnOf "law" "law" (defArgs s_law) (defBody s_law) (defScope s_law) .none kV11 dc11 pm11 an11 cd11 ct11, fun s u => .of_eq rfl, fun base _ _ hs => ?_⟩
  have M__law_begun : ∀ {k : Nat} {sp : Sp} {fd : FuncData}, fd = PySem.W.fnOf "_law_begun" "_law_begun" (defArgs s__law_begun) (defBody s__law_begun) (defScope s__law_begun) .none kV1 dc1 pm1 an1 cd1 ct1 → FnG l.prog w K mg base k f1 fd ["script"] sp → Def l.prog w K mg base "_law_begun" k ["script"] sp := fun e ok => ⟨_, _, PySem.W.mg_of X G a1, p1, e ▸ F__law_begun.binds (ps := ["script"]) fun _ _ _ _ _ _ us hl => match us, hl with | [_], _ => rfl, ok⟩
  have M__law_mixed : ∀ {k : Nat} {sp : Sp} {fd : FuncData}, fd = PySem.W.fnOf "_law_mixed" "_law_mixed" (defArgs s__law_mixed) (defBody s__law_mixed) (defScope s__law_mixed) .none kV2 dc2 pm2 an2 cd2 ct2 → FnG l.prog w K mg base k f2 fd ["state"] sp → Def l.prog w K mg base "_law_mixed" k ["state"] sp := fun e ok => ⟨_, _, PySem.W.mg_of X G a2, p2, e ▸ F__law_mixed.binds (ps := ["state"]) fun _ _ _ _ _ _ us hl => match us, hl with | [_], _ => rfl, ok⟩
  have M__law_take : ∀ {k : Nat} {sp : Sp} {fd : FuncData}, fd = PySem.W.fnOf "_law_take" "_law_take" (defArgs s__law_take) (defBody s__law_take) (defScope s__law_take) .none kV3 dc3 pm3 an3 cd3 ct3 → FnG l.prog w K mg base k f3 fd ["state", "size"] sp → Def l.prog w K mg base "_law_take" k ["state", "size"] sp := fun e ok => ⟨_, _, PySem.W.mg_of X G a3, p3, e ▸ F__law_take.binds (ps := ["state", "size"]) fun _ _ _ _ _ _ us hl => match us, hl with | [_, _], _ => rfl, ok⟩
  have M__law_pick : ∀ {k : Nat} {sp : Sp} {fd : FuncData}, fd = PySem.W.fnOf "_law_pick" "_law_pick" (defArgs s__law_pick) (defBody s__law_pick) (defScope s__law_pick) .none kV4 dc4 pm4 an4 cd4 ct4 → FnG l.prog w K mg base k f4 fd ["state", "some"] sp → Def l.prog w K mg base "_law_pick" k ["state", "some"] sp := fun e ok => ⟨_, _, PySem.W.mg_of X G a4, p4, e ▸ F__law_pick.binds (ps := ["state", "some"]) fun _ _ _ _ _ _ us hl => match us, hl with | [_, _], _ => rfl, ok⟩
  have M__law_odd : ∀ {k : Nat} {sp : Sp} {fd : FuncData}, fd = PySem.W.fnOf "_law_odd" "_law_odd" (defArgs s__law_odd) (defBody s__law_odd) (defScope s__law_odd) .none kV5 dc5 pm5 an5 cd5 ct5 → FnG l.prog w K mg base k f5 fd ["state"] sp → Def l.prog w K mg base "_law_odd" k ["state"] sp := fun e ok => ⟨_, _, PySem.W.mg_of X G a5, p5, e ▸ F__law_odd.binds (ps := ["state"]) fun _ _ _ _ _ _ us hl => match us, hl with | [_], _ => rfl, ok⟩
  have M__law_marks : ∀ {k : Nat} {sp : Sp} {fd : FuncData}, fd = PySem.W.fnOf "_law_marks" "_law_marks" (defArgs s__law_marks) (defBody s__law_marks) (defScope s__law_marks) .none kV6 dc6 pm6 an6 cd6 ct6 → FnG l.prog w K mg base k f6 fd ["error"] sp → Def l.prog w K mg base "_law_marks" k ["error"] sp := fun e ok => ⟨_, _, PySem.W.mg_of X G a6, p6, e ▸ F__law_marks.binds (ps := ["error"]) fun _ _ _ _ _ _ us hl => match us, hl with | [_], _ => rfl, ok⟩
  have M__law_each : ∀ {k : Nat} {sp : Sp} {fd : FuncData}, fd = PySem.W.fnOf "_law_each" "_law_each" (defArgs s__law_each) (defBody s__law_each) (defScope s__law_each) .none kV7 dc7 pm7 an7 cd7 ct7 → FnG l.prog w K mg base k f7 fd ["matter", "more"] sp → Def l.prog w K mg base "_law_each" k ["matter", "more"] sp := fun e ok => ⟨_, _, PySem.W.mg_of X G a7, p7, e ▸ F__law_each.binds (ps := ["matter", "more"]) fun _ _ _ _ _ _ us hl => match us, hl with | [_, _], _ => rfl, ok⟩
  have M__law_by_name : ∀ {k : Nat} {sp : Sp} {fd : FuncData}, fd = PySem.W.fnOf "_law_by_name" "_law_by_name" (defArgs s__law_by_name) (defBody s__law_by_name) (defScope s__law_by_name) .none kV8 dc8 pm8 an8 cd8 ct8 → FnG l.prog w K mg base k f8 fd ["matter", "more"] sp → Def l.prog w K mg base "_law_by_name" k ["matter", "more"] sp := fun e ok => ⟨_, _, PySem.W.mg_of X G a8, p8, e ▸ F__law_by_name.binds (ps := ["matter", "more"]) fun _ _ _ _ _ _ us hl => match us, hl with | [_, _], _ => rfl, ok⟩
  have M__law_kept : ∀ {k : Nat} {sp : Sp} {fd : FuncData}, fd = PySem.W.fnOf "_law_kept" "_law_kept" (defArgs s__law_kept) (defBody s__law_kept) (defScope s__law_kept) .none kV9 dc9 pm9 an9 cd9 ct9 → FnG l.prog w K mg base k f9 fd ["some"] sp → Def l.prog w K mg base "_law_kept" k ["some"] sp := fun e ok => ⟨_, _, PySem.W.mg_of X G a9, p9, e ▸ F__law_kept.binds (ps := ["some"]) fun _ _ _ _ _ _ us hl => match us, hl with | [_], _ => rfl, ok⟩
  have M__law_keeping : ∀ {k : Nat} {sp : Sp} {fd : FuncData}, fd = PySem.W.fnOf "_law_keeping" "_law_keeping" (defArgs s__law_keeping) (defBody s__law_keeping) (defScope s__law_keeping) .none kV10 dc10 pm10 an10 cd10 ct10 → FnG l.prog w K mg base k f10 fd ["some"] sp → Def l.prog w K mg base "_law_keeping" k ["some"] sp := fun e ok => ⟨_, _, PySem.W.mg_of X G a10, p10, e ▸ F__law_keeping.binds (ps := ["some"]) fun _ _ _ _ _ _ us hl => match us, hl with | [_], _ => rfl, ok⟩
  have Td := PySem.W.mg_none_of X G z_dict
  have FD : FunD K "copied" "copied" (defArgs s_copied) (defBody s_copied) (defScope s_copied) [.int 20] [] fc (PySem.W.fnOf "copied" "copied" (defArgs s_copied) (defBody s_copied) (defScope s_copied) (.ref TD) kVc dcc pmc anc cdc ctc) := ⟨⟨_, _, _, _, _, _, _, _, _, _, rfl, cl, cc, .inr ⟨(fun z => nomatch z), TD, _, [.int 20 tkt], nt, rfl, ct, rfl, .cons ⟨_, rfl⟩ .nil⟩, .inl rfl⟩, ck⟩
  obtain ⟨dz, vdz, bc⟩ := FD.binds1 (ps := ["thing", "levels"]) 2 1 (fun z => nomatch z) rfl fun T kV doc pm an cdv ct us its l1 l2 => match us, its, l1, l2 with | [_, _], [_], _, _ => ⟨_, rfl, rfl⟩
  cases vdz
  have P0 : Def l.prog w K mg base "copied" 0 ["thing", "levels"] (spPrevC K 0) := ⟨_, _, PySem.W.mg_of X G ca, ck, bc, fnG_none⟩
  have P1 : Def l.prog w K mg base "copied" 1 ["thing", "levels"] (spPrevC K 1) := ⟨_, _, PySem.W.mg_of X G ca, ck, bc, ok_copied 0 cl cc T Td P0⟩
  have P2 : Def l.prog w K mg base "copied" 2 ["thing", "levels"] (spPrevC K 2) := ⟨_, _, PySem.W.mg_of X G ca, ck, bc, ok_copied 1 cl cc T Td P1⟩
  have P3 : Def l.prog w K mg base "copied" 3 ["thing", "levels"] (spPrevC K 3) := ⟨_, _, PySem.W.mg_of X G ca, ck, bc, ok_copied 2 cl cc T Td P2⟩
  obtain ⟨ds, vds, bds⟩ := FD.binds1 (ps := ["thing", "levels"]) 1 0 (fun z => nomatch z) rfl fun T kV doc pm an cdv ct us its l1 l2 => match us, its, l1, l2 with | [_], [_], _, _ => ⟨_, rfl, rfl⟩
  have Dc : DefD l.prog w K mg base "copied" 4 ["thing", "levels"] [.int 20] (spX K 2 (PCp 3)) := ⟨_, _, ds, PySem.W.mg_of X G ca, ck, bds, vds, ok_copied 3 cl cc T Td P3⟩
  have O0 : One K c0 := (⟨⟨hg0, hk0, hs0, hd0, hc0, hn, ht, hm0⟩, ht0, hp0, hx0⟩ : One K _)
  have O1 : One K c1 := (⟨⟨hg1, hk1, hs1, hd1, hc1, hn, ht, hm1⟩, ht1, hp1, hx1⟩ : One K _)
  have O2 : One K c2 := (⟨⟨hg2, hk2, hs2, hd2, hc2, hn, ht, hm2⟩, ht2, hp2, hx2⟩ : One K _)
  have O3 : One K c3 := (⟨⟨hg3, hk3, hs3, hd3, hc3, hn, ht, hm3⟩, ht3, hp3, hx3⟩ : One K _)
  have O4 : One K c4 := (⟨⟨hg4, hk4, hs4, hd4, hc4, hn, ht, hm4⟩, ht4, hp4, hx4⟩ : One K _)
  have O5 : One K c5 := (⟨⟨hg5, hk5, hs5, hd5, hc5, hn, ht, hm5⟩, ht5, hp5, hx5⟩ : One K _)
  have O6 : One K c6 := (⟨⟨hg6, hk6, hs6, hd6, hc6, hn, ht, hm6⟩, ht6, hp6, hx6⟩ : One K _)
  have O7 : One K c7 := (⟨⟨hg7, hk7, hs7, hd7, hc7, hn, ht, hm7⟩, ht7, hp7, hx7⟩ : One K _)
  have O8 : One K c8 := (⟨⟨hg8, hk8, hs8, hd8, hc8, hn, ht, hm8⟩, ht8, hp8, hx8⟩ : One K _)
  have O9 : One K c9 := (⟨⟨hg9, hk9, hs9, hd9, hc9, hn, ht, hm9⟩, ht9, hp9, hx9⟩ : One K _)
  have O10 : One K c10 := (⟨⟨hg10, hk10, hs10, hd10, hc10, hn, ht, hm10⟩, ht10, hp10, hx10⟩ : One K _)
  have O11 : One K c11 := (⟨⟨hg11, hk11, hs11, hd11, hc11, hn, ht, hm11⟩, ht11, hp11, hx11⟩ : One K _)
  have O12 : One K c12 := (⟨⟨hg12, hk12, hs12, hd12, hc12, hn, ht, hm12⟩, ht12, hp12, hx12⟩ : One K _)
  have O13 : One K c13 := (⟨⟨hg13, hk13, hs13, hd13, hc13, hn, ht, hm13⟩, ht13, hp13, hx13⟩ : One K _)
  have O14 : One K c14 := (⟨⟨hg14, hk14, hs14, hd14, hc14, hn, ht, hm14⟩, ht14, hp14, hx14⟩ : One K _)
  have O15 : One K c15 := (⟨⟨hg15, hk15, hs15, hd15, hc15, hn, ht, hm15⟩, ht15, hp15, hx15⟩ : One K _)
  have O16 : One K c16 := (⟨⟨hg16, hk16, hs16, hd16, hc16, hn, ht, hm16⟩, ht16, hp16, hx16⟩ : One K _)
  have O17 : One K c17 := (⟨⟨hg17, hk17, hs17, hd17, hc17, hn, ht, hm17⟩, ht17, hp17, hx17⟩ : One K _)
  have O18 : One K c18 := (⟨⟨hg18, hk18, hs18, hd18, hc18, hn, ht, hm18⟩, ht18, hp18, hx18⟩ : One K _)
  have O19 : One K c19 := (⟨⟨hg19, hk19, hs19, hd19, hc19, hn, ht, hm19⟩, ht19, hp19, hx19⟩ : One K _)
  have O20 : One K c20 := (⟨⟨hg20, hk20, hs20, hd20, hc20, hn, ht, hm20⟩, ht20, hp20, hx20⟩ : One K _)
  have OW : One K CW := (⟨⟨hgW, hkW, hsW, hdW, hcW, hn, ht, hmW⟩, htW, hpW, hxW⟩ : One K _)
  have E0 : ErrC K mg "BadFields" c0 := ⟨ex0, PySem.W.mg_of X G cg0, hp0, hs0, ht0⟩
  have E1 : ErrC K mg "BadNumbers" c1 := ⟨ex1, PySem.W.mg_of X G cg1, hp1, hs1, ht1⟩
  have E2 : ErrC K mg "BadTree" c2 := ⟨ex2, PySem.W.mg_of X G cg2, hp2, hs2, ht2⟩
  have Q3 : OexC K c3 := ⟨⟨_, _, _, _, _, _, _, _, _, _, _, _, _, _, _, o3, r3⟩, is3, hs3, ht3, hp3⟩
  have J3 : IniF K l.prog "TooMany.__init__" s_TooMany fi3 c3 cda3 cel3 _ := ⟨⟨_, _, _, _, _, _, _, _, _, _, _, _, _, _, _, _, _, rfl, il3, ic3, id3, iv3, ig3, ie3⟩, top, z_super, thr, iq3, iw3, ix3⟩
  have E3 : InitC l.prog w K mg base "TooMany" ["what", "most"] ["most", "what"] swap2 c3 := ⟨fi3, _, _, ⟨Q3, ii3, it3⟩, PySem.W.mg_of X G cg3, .all fun us hl => match us, hl with | [_, _, _], _ => rfl, ini_TooMany J3 Q3 n3_what n3_most hs Dc, kb_i2 fun _ _ _ => rfl⟩
  have Q4 : OexC K c4 := ⟨⟨_, _, _, _, _, _, _, _, _, _, _, _, _, _, _, o4, r4⟩, is4, hs4, ht4, hp4⟩
  have J4 : IniF K l.prog "BadProgram.__init__" s_BadProgram fi4 c4 cda4 cel4 _ := ⟨⟨_, _, _, _, _, _, _, _, _, _, _, _, _, _, _, _, _, rfl, il4, ic4, id4, iv4, ig4, ie4⟩, top, z_super, thr, iq4, iw4, ix4⟩
  have E4 : InitC l.prog w K mg base "BadProgram" ["part"] ["part"] id c4 := ⟨fi4, _, _, ⟨Q4, ii4, it4⟩, PySem.W.mg_of X G cg4, .all fun us hl => match us, hl with | [_, _], _ => rfl, ini_BadProgram J4 Q4 n4_part hs Dc, kb_i1 fun _ _ => rfl⟩
  have E5 : ErrC K mg "OtherFields" c5 := ⟨ex5, PySem.W.mg_of X G cg5, hp5, hs5, ht5⟩
  have Q6 : OexC K c6 := ⟨⟨_, _, _, _, _, _, _, _, _, _, _, _, _, _, _, o6, r6⟩, is6, hs6, ht6, hp6⟩
  have J6 : IniF K l.prog "BadTest.__init__" s_BadTest fi6 c6 cda6 cel6 _ := ⟨⟨_, _, _, _, _, _, _, _, _, _, _, _, _, _, _, _, _, rfl, il6, ic6, id6, iv6, ig6, ie6⟩, top, z_super, thr, iq6, iw6, ix6⟩
  have E6 : InitC l.prog w K mg base "BadTest" ["part"] ["part"] id c6 := ⟨fi6, _, _, ⟨Q6, ii6, it6⟩, PySem.W.mg_of X G cg6, .all fun us hl => match us, hl with | [_, _], _ => rfl, ini_BadTest J6 Q6 n6_part hs Dc, kb_i1 fun _ _ => rfl⟩
  have Q7 : OexC K c7 := ⟨⟨_, _, _, _, _, _, _, _, _, _, _, _, _, _, _, o7, r7⟩, is7, hs7, ht7, hp7⟩
  have J7 : IniF K l.prog "BadPacket.__init__" s_BadPacket fi7 c7 cda7 cel7 _ := ⟨⟨_, _, _, _, _, _, _, _, _, _, _, _, _, _, _, _, _, rfl, il7, ic7, id7, iv7, ig7, ie7⟩, top, z_super, thr, iq7, iw7, ix7⟩
  have E7 : InitC l.prog w K mg base "BadPacket" ["packet"] ["packet"] id c7 := ⟨fi7, _, _, ⟨Q7, ii7, it7⟩, PySem.W.mg_of X G cg7, .all fun us hl => match us, hl with | [_, _], _ => rfl, ini_BadPacket J7 Q7 n7_packet hs Dc, kb_i1 fun _ _ => rfl⟩
  have Q8 : OexC K c8 := ⟨⟨_, _, _, _, _, _, _, _, _, _, _, _, _, _, _, o8, r8⟩, is8, hs8, ht8, hp8⟩
  have J8 : IniF K l.prog "BadMost.__init__" s_BadMost fi8 c8 cda8 cel8 _ := ⟨⟨_, _, _, _, _, _, _, _, _, _, _, _, _, _, _, _, _, rfl, il8, ic8, id8, iv8, ig8, ie8⟩, top, z_super, thr, iq8, iw8, ix8⟩
  have E8 : InitC l.prog w K mg base "BadMost" ["most"] ["most"] id c8 := ⟨fi8, _, _, ⟨Q8, ii8, it8⟩, PySem.W.mg_of X G cg8, .all fun us hl => match us, hl with | [_, _], _ => rfl, ini_BadMost J8 Q8 n8_most hs Dc, kb_i1 fun _ _ => rfl⟩
  have Q9 : OexC K c9 := ⟨⟨_, _, _, _, _, _, _, _, _, _, _, _, _, _, _, o9, r9⟩, is9, hs9, ht9, hp9⟩
  have J9 : IniF K l.prog "NoPlace.__init__" s_NoPlace fi9 c9 cda9 cel9 _ := ⟨⟨_, _, _, _, _, _, _, _, _, _, _, _, _, _, _, _, _, rfl, il9, ic9, id9, iv9, ig9, ie9⟩, top, z_super, thr, iq9, iw9, ix9⟩
  have E9 : InitC l.prog w K mg base "NoPlace" ["place"] ["place"] id c9 := ⟨fi9, _, _, ⟨Q9, ii9, it9⟩, PySem.W.mg_of X G cg9, .all fun us hl => match us, hl with | [_, _], _ => rfl, ini_NoPlace J9 Q9 n9_place hs Dc, kb_i1 fun _ _ => rfl⟩
  have Q10 : OexC K c10 := ⟨⟨_, _, _, _, _, _, _, _, _, _, _, _, _, _, _, o10, r10⟩, is10, hs10, ht10, hp10⟩
  have J10 : IniF K l.prog "BadWord.__init__" s_BadWord fi10 c10 cda10 cel10 _ := ⟨⟨_, _, _, _, _, _, _, _, _, _, _, _, _, _, _, _, _, rfl, il10, ic10, id10, iv10, ig10, ie10⟩, top, z_super, thr, iq10, iw10, ix10⟩
  have E10 : InitC l.prog w K mg base "BadWord" ["word"] ["word"] id c10 := ⟨fi10, _, _, ⟨Q10, ii10, it10⟩, PySem.W.mg_of X G cg10, .all fun us hl => match us, hl with | [_, _], _ => rfl, ini_BadWord J10 Q10 n10_word hs Dc, kb_i1 fun _ _ => rfl⟩
  have Q11 : OexC K c11 := ⟨⟨_, _, _, _, _, _, _, _, _, _, _, _, _, _, _, o11, r11⟩, is11, hs11, ht11, hp11⟩
  have J11 : IniF K l.prog "BadTests.__init__" s_BadTests fi11 c11 cda11 cel11 _ := ⟨⟨_, _, _, _, _, _, _, _, _, _, _, _, _, _, _, _, _, rfl, il11, ic11, id11, iv11, ig11, ie11⟩, top, z_super, thr, iq11, iw11, ix11⟩
  have E11 : InitC l.prog w K mg base "BadTests" ["at"] ["at"] id c11 := ⟨fi11, _, _, ⟨Q11, ii11, it11⟩, PySem.W.mg_of X G cg11, .all fun us hl => match us, hl with | [_, _], _ => rfl, ini_BadTests J11 Q11 n11_at hs Dc, kb_i1 fun _ _ => rfl⟩
  have Q12 : OexC K c12 := ⟨⟨_, _, _, _, _, _, _, _, _, _, _, _, _, _, _, o12, r12⟩, is12, hs12, ht12, hp12⟩
  have J12 : IniF K l.prog "NoPart.__init__" s_NoPart fi12 c12 cda12 cel12 _ := ⟨⟨_, _, _, _, _, _, _, _, _, _, _, _, _, _, _, _, _, rfl, il12, ic12, id12, iv12, ig12, ie12⟩, top, z_super, thr, iq12, iw12, ix12⟩
  have E12 : InitC l.prog w K mg base "NoPart" ["path"] ["path"] id c12 := ⟨fi12, _, _, ⟨Q12, ii12, it12⟩, PySem.W.mg_of X G cg12, .all fun us hl => match us, hl with | [_, _], _ => rfl, ini_NoPart J12 Q12 n12_path hs Dc, kb_i1 fun _ _ => rfl⟩
  have E13 : ErrC K mg "BadLot" c13 := ⟨ex13, PySem.W.mg_of X G cg13, hp13, hs13, ht13⟩
  have Q14 : OexC K c14 := ⟨⟨_, _, _, _, _, _, _, _, _, _, _, _, _, _, _, o14, r14⟩, is14, hs14, ht14, hp14⟩
  have J14 : IniF K l.prog "BadNet.__init__" s_BadNet fi14 c14 cda14 cel14 _ := ⟨⟨_, _, _, _, _, _, _, _, _, _, _, _, _, _, _, _, _, rfl, il14, ic14, id14, iv14, ig14, ie14⟩, top, z_super, thr, iq14, iw14, ix14⟩
  have E14 : InitC l.prog w K mg base "BadNet" ["part"] ["part"] id c14 := ⟨fi14, _, _, ⟨Q14, ii14, it14⟩, PySem.W.mg_of X G cg14, .all fun us hl => match us, hl with | [_, _], _ => rfl, ini_BadNet J14 Q14 n14_part hs Dc, kb_i1 fun _ _ => rfl⟩
  have Q15 : OexC K c15 := ⟨⟨_, _, _, _, _, _, _, _, _, _, _, _, _, _, _, o15, r15⟩, is15, hs15, ht15, hp15⟩
  have J15 : IniF K l.prog "BadRule.__init__" s_BadRule fi15 c15 cda15 cel15 _ := ⟨⟨_, _, _, _, _, _, _, _, _, _, _, _, _, _, _, _, _, rfl, il15, ic15, id15, iv15, ig15, ie15⟩, top, z_super, thr, iq15, iw15, ix15⟩
  have E15 : InitC l.prog w K mg base "BadRule" ["at"] ["at"] id c15 := ⟨fi15, _, _, ⟨Q15, ii15, it15⟩, PySem.W.mg_of X G cg15, .all fun us hl => match us, hl with | [_, _], _ => rfl, ini_BadRule J15 Q15 n15_at hs Dc, kb_i1 fun _ _ => rfl⟩
  have Q16 : OexC K c16 := ⟨⟨_, _, _, _, _, _, _, _, _, _, _, _, _, _, _, o16, r16⟩, is16, hs16, ht16, hp16⟩
  have J16 : IniF K l.prog "BadDeed.__init__" s_BadDeed fi16 c16 cda16 cel16 _ := ⟨⟨_, _, _, _, _, _, _, _, _, _, _, _, _, _, _, _, _, rfl, il16, ic16, id16, iv16, ig16, ie16⟩, top, z_super, thr, iq16, iw16, ix16⟩
  have E16 : InitC l.prog w K mg base "BadDeed" ["deed"] ["deed"] id c16 := ⟨fi16, _, _, ⟨Q16, ii16, it16⟩, PySem.W.mg_of X G cg16, .all fun us hl => match us, hl with | [_, _], _ => rfl, ini_BadDeed J16 Q16 n16_deed hs Dc, kb_i1 fun _ _ => rfl⟩
  have E17 : ErrC K mg "NothingLeft" c17 := ⟨ex17, PySem.W.mg_of X G cg17, hp17, hs17, ht17⟩
  have Q18 : OexC K c18 := ⟨⟨_, _, _, _, _, _, _, _, _, _, _, _, _, _, _, o18, r18⟩, is18, hs18, ht18, hp18⟩
  have J18 : IniF K l.prog "BadJournal.__init__" s_BadJournal fi18 c18 cda18 cel18 _ := ⟨⟨_, _, _, _, _, _, _, _, _, _, _, _, _, _, _, _, _, rfl, il18, ic18, id18, iv18, ig18, ie18⟩, top, z_super, thr, iq18, iw18, ix18⟩
  have E18 : InitC l.prog w K mg base "BadJournal" ["at"] ["at"] id c18 := ⟨fi18, _, _, ⟨Q18, ii18, it18⟩, PySem.W.mg_of X G cg18, .all fun us hl => match us, hl with | [_, _], _ => rfl, ini_BadJournal J18 Q18 n18_at hs Dc, kb_i1 fun _ _ => rfl⟩
  have Q19 : OexC K c19 := ⟨⟨_, _, _, _, _, _, _, _, _, _, _, _, _, _, _, o19, r19⟩, is19, hs19, ht19, hp19⟩
  have J19 : IniF K l.prog "BadText.__init__" s_BadText fi19 c19 cda19 cel19 _ := ⟨⟨_, _, _, _, _, _, _, _, _, _, _, _, _, _, _, _, _, rfl, il19, ic19, id19, iv19, ig19, ie19⟩, top, z_super, thr, iq19, iw19, ix19⟩
  have E19 : InitC l.prog w K mg base "BadText" ["line"] ["line"] id c19 := ⟨fi19, _, _, ⟨Q19, ii19, it19⟩, PySem.W.mg_of X G cg19, .all fun us hl => match us, hl with | [_, _], _ => rfl, ini_BadText J19 Q19 n19_line hs Dc, kb_i1 fun _ _ => rfl⟩
  have Q20 : OexC K c20 := ⟨⟨_, _, _, _, _, _, _, _, _, _, _, _, _, _, _, o20, r20⟩, is20, hs20, ht20, hp20⟩
  have J20 : IniF K l.prog "BadName.__init__" s_BadName fi20 c20 cda20 cel20 _ := ⟨⟨_, _, _, _, _, _, _, _, _, _, _, _, _, _, _, _, _, rfl, il20, ic20, id20, iv20, ig20, ie20⟩, top, z_super, thr, iq20, iw20, ix20⟩
  have E20 : InitC l.prog w K mg base "BadName" ["name"] ["name"] id c20 := ⟨fi20, _, _, ⟨Q20, ii20, it20⟩, PySem.W.mg_of X G cg20, .all fun us hl => match us, hl with | [_, _], _ => rfl, ini_BadName J20 Q20 n20_name hs Dc, kb_i1 fun _ _ => rfl⟩
  have EW : ErrC K mg "WayError" CW := ⟨exW, PySem.W.mg_of X G cgW, hpW, hsW, htW⟩
  have all1 : ∀ C ∈ ([c0, c1, c2, c3, c4, c5, c6, c7, c8, c9, c10, c11, c12, c13, c14, c15, c16, c17, c18, c19, c20] : List Addr), One K C := by
    intro C hC
    simp only [List.mem_cons, List.not_mem_nil, or_false] at hC
    rcases hC with rfl | rfl | rfl | rfl | rfl | rfl | rfl | rfl | rfl | rfl | rfl | rfl | rfl | rfl | rfl | rfl | rfl | rfl | rfl | rfl | rfl
    · exact O0
    · exact O1
    · exact O2
    · exact O3
    · exact O4
    · exact O5
    · exact O6
    · exact O7
    · exact O8
    · exact O9
    · exact O10
    · exact O11
    · exact O12
    · exact O13
    · exact O14
    · exact O15
    · exact O16
    · exact O17
    · exact O18
    · exact O19
    · exact O20
  have c21 := of21 (cs := [c0, c1, c2, c3, c4, c5, c6, c7, c8, c9, c10, c11, c12, c13, c14, c15, c16, c17, c18, c19, c20]) rfl all1
  have C : Cls l.prog w K mg base CW (at21 [c0, c1, c2, c3, c4, c5, c6, c7, c8, c9, c10, c11, c12, c13, c14, c15, c16, c17, c18, c19, c20]) := { e0 := E0, e1 := E1, e2 := E2, e3 := E3, e4 := E4, e5 := E5, e6 := E6, e7 := E7, e8 := E8, e9 := E9, e10 := E10, e11 := E11, e12 := E12, e13 := E13, e14 := E14, e15 := E15, e16 := E16, e17 := E17, e18 := E18, e19 := E19, e20 := E20, way := EW, x := fun i hi => (c21 i hi).x, xw := OW.x, f := fun i hi => (c21 i hi).f, b := fun i hi => (c21 i hi).x.hs, kit := fun i j hi hj => eq_of_beq (all21 (all21 pairs i hi) j hj), isW := fun i hi => eq_of_beq (Bool.and_eq_true_iff.mp (all21 ups i hi)).1, isV := fun i hi => eq_of_beq (Bool.and_eq_true_iff.mp (all21 ups i hi)).2, wV := wv, wN := fun i hi => eq_of_beq (all21 fars i hi), str := fun i hi => (c21 i hi).s, n3_what := n3_what, n3_most := n3_most, n4_part := n4_part, n6_part := n6_part, n7_packet := n7_packet, n8_most := n8_most, n9_place := n9_place, n10_word := n10_word, n11_at := n11_at, n12_path := n12_path, n14_part := n14_part, n15_at := n15_at, n16_deed := n16_deed, n18_at := n18_at, n19_line := n19_line, n20_name := n20_name }
  have G__law_begun : Def l.prog w K mg base "_law_begun" 1 ["script"] (spBegun K) := M__law_begun rfl (ok_begun F__law_begun T)
  have G__law_mixed : Def l.prog w K mg base "_law_mixed" 1 ["state"] (spMixed) := M__law_mixed rfl (ok_mixed F__law_mixed T)
  have G__law_take : Def l.prog w K mg base "_law_take" 2 ["state", "size"] (spTake) := M__law_take rfl (ok_take F__law_take T G__law_mixed)
  have G__law_pick : Def l.prog w K mg base "_law_pick" 3 ["state", "some"] (spPick K) := M__law_pick rfl (ok_pick F__law_pick T G__law_take)
  have G__law_odd : Def l.prog w K mg base "_law_odd" 4 ["state"] (spOdd K) := M__law_odd rfl (ok_odd F__law_odd T G__law_pick)
  have G__law_marks : Def l.prog w K mg base "_law_marks" 1 ["error"] (spMk K (at21 [c0, c1, c2, c3, c4, c5, c6, c7, c8, c9, c10, c11, c12, c13, c14, c15, c16, c17, c18, c19, c20])) := M__law_marks rfl (ok_marks F__law_marks T C)
  have G__law_each : Def l.prog w K mg base "_law_each" 7 ["matter", "more"] (spL K (eachR K (at21 [c0, c1, c2, c3, c4, c5, c6, c7, c8, c9, c10, c11, c12, c13, c14, c15, c16, c17, c18, c19, c20]))) := M__law_each rfl (ok_each F__law_each C)
  have G__law_by_name : Def l.prog w K mg base "_law_by_name" 7 ["matter", "more"] (spL K (keptR K (at21 [c0, c1, c2, c3, c4, c5, c6, c7, c8, c9, c10, c11, c12, c13, c14, c15, c16, c17, c18, c19, c20]))) := M__law_by_name rfl (ok_by_name F__law_by_name C)
  have G__law_kept : Def l.prog w K mg base "_law_kept" 1 ["some"] (spKept K (at21 [c0, c1, c2, c3, c4, c5, c6, c7, c8, c9, c10, c11, c12, c13, c14, c15, c16, c17, c18, c19, c20])) := M__law_kept rfl (ok_kept F__law_kept C)
  have G__law_keeping : Def l.prog w K mg base "_law_keeping" 1 ["some"] (spKeep K (at21 [c0, c1, c2, c3, c4, c5, c6, c7, c8, c9, c10, c11, c12, c13, c14, c15, c16, c17, c18, c19, c20])) := M__law_keeping rfl (ok_keeping F__law_keeping)
  exact ok_law F_law T (PySem.W.mg_none_of X G z_enumerate) (PySem.W.mg_none_of X G z_ValueError) hs C G__law_begun G__law_take G__law_pick G__law_odd G__law_marks G__law_each G__law_by_name G__law_kept G__law_keeping
end Mw
open PySem PySem.W PyProof.Rows
set_option maxHeartbeats 0 in
theorem PySem.Challenge.cw_markedways_k01_errors_apart_holds : PySem.Challenge.rw_markedways_k01_errors_apart.Holds := by
  w_on; o_law; k_head; (case hw => w_witness2)
  k_fill
  refine Mw.walk_G (l := PySem.Challenge.rw_markedways_k01_errors_apart) (n := 63) (k := 8) (x := "script") (sp := fun K => Mw.spLaw K) rfl (by decide) rfl ⟨⟨rfl, by decide, by decide⟩, rfl⟩ (by decide +kernel) (fun w h Y => PySem.W.kIn_of Y) ?F (fun K H a ns hl _ hO hS => ⟨a, ns, rfl, hO, hS, hl, fun _ => rfl⟩)
  case F =>
    intro w mg fa h KX G hmg
    refine' Mw.all_mk KX G hmg ?a1 ?l1 ?k1 ?p1 ?a2 ?l2 ?k2 ?p2 ?a3 ?l3 ?k3 ?p3 ?a4 ?l4 ?k4 ?p4 ?a5 ?l5 ?k5 ?p5 ?a6 ?l6 ?k6 ?p6 ?a7 ?l7 ?k7 ?p7 ?a8 ?l8 ?k8 ?p8 ?a9 ?l9 ?k9 ?p9 ?a10 ?l10 ?k10 ?p10 ?a11 ?l11 ?k11 ?p11 ?z_abs ?z_int ?z_len ?z_list ?z_tuple ?z_range ?z_sorted ?z_isinstance ?z_str ?z_bool ?z_all ?z_set ?z_repr ?z_min ?z_zip ?z_dict ?z_enumerate ?z_ValueError ?z_super ?ca ?cl ?cc ?ck ?ct ?hn ?ht ?thr ?top ?cgW ?hgW ?hkW ?hsW ?hdW ?hcW ?hmW ?htW ?hpW ?hxW ?exW ?cg0 ?hg0 ?hk0 ?hs0 ?hd0 ?hc0 ?hm0 ?ht0 ?hp0 ?hx0 ?ex0 ?cg1 ?hg1 ?hk1 ?hs1 ?hd1 ?hc1 ?hm1 ?ht1 ?hp1 ?hx1 ?ex1 ?cg2 ?hg2 ?hk2 ?hs2 ?hd2 ?hc2 ?hm2 ?ht2 ?hp2 ?hx2 ?ex2 ?cg3 ?hg3 ?hk3 ?hs3 ?hd3 ?hc3 ?hm3 ?ht3 ?hp3 ?hx3 ?o3 ?r3 ?ii3 ?it3 ?is3 ?il3 ?ic3 ?id3 ?iv3 ?ig3 ?ie3 ?iq3 ?iw3 ?ix3 ?n3_what ?n3_most ?cg4 ?hg4 ?hk4 ?hs4 ?hd4 ?hc4 ?hm4 ?ht4 ?hp4 ?hx4 ?o4 ?r4 ?ii4 ?it4 ?is4 ?il4 ?ic4 ?id4 ?iv4 ?ig4 ?ie4 ?iq4 ?iw4 ?ix4 ?n4_part ?cg5 ?hg5 ?hk5 ?hs5 ?hd5 ?hc5 ?hm5 ?ht5 ?hp5 ?hx5 ?ex5 ?cg6 ?hg6 ?hk6 ?hs6 ?hd6 ?hc6 ?hm6 ?ht6 ?hp6 ?hx6 ?o6 ?r6 ?ii6 ?it6 ?is6 ?il6 ?ic6 ?id6 ?iv6 ?ig6 ?ie6 ?iq6 ?iw6 ?ix6 ?n6_part ?cg7 ?hg7 ?hk7 ?hs7 ?hd7 ?hc7 ?hm7 ?ht7 ?hp7 ?hx7 ?o7 ?r7 ?ii7 ?it7 ?is7 ?il7 ?ic7 ?id7 ?iv7 ?ig7 ?ie7 ?iq7 ?iw7 ?ix7 ?n7_packet ?cg8 ?hg8 ?hk8 ?hs8 ?hd8 ?hc8 ?hm8 ?ht8 ?hp8 ?hx8 ?o8 ?r8 ?ii8 ?it8 ?is8 ?il8 ?ic8 ?id8 ?iv8 ?ig8 ?ie8 ?iq8 ?iw8 ?ix8 ?n8_most ?cg9 ?hg9 ?hk9 ?hs9 ?hd9 ?hc9 ?hm9 ?ht9 ?hp9 ?hx9 ?o9 ?r9 ?ii9 ?it9 ?is9 ?il9 ?ic9 ?id9 ?iv9 ?ig9 ?ie9 ?iq9 ?iw9 ?ix9 ?n9_place ?cg10 ?hg10 ?hk10 ?hs10 ?hd10 ?hc10 ?hm10 ?ht10 ?hp10 ?hx10 ?o10 ?r10 ?ii10 ?it10 ?is10 ?il10 ?ic10 ?id10 ?iv10 ?ig10 ?ie10 ?iq10 ?iw10 ?ix10 ?n10_word ?cg11 ?hg11 ?hk11 ?hs11 ?hd11 ?hc11 ?hm11 ?ht11 ?hp11 ?hx11 ?o11 ?r11 ?ii11 ?it11 ?is11 ?il11 ?ic11 ?id11 ?iv11 ?ig11 ?ie11 ?iq11 ?iw11 ?ix11 ?n11_at ?cg12 ?hg12 ?hk12 ?hs12 ?hd12 ?hc12 ?hm12 ?ht12 ?hp12 ?hx12 ?o12 ?r12 ?ii12 ?it12 ?is12 ?il12 ?ic12 ?id12 ?iv12 ?ig12 ?ie12 ?iq12 ?iw12 ?ix12 ?n12_path ?cg13 ?hg13 ?hk13 ?hs13 ?hd13 ?hc13 ?hm13 ?ht13 ?hp13 ?hx13 ?ex13 ?cg14 ?hg14 ?hk14 ?hs14 ?hd14 ?hc14 ?hm14 ?ht14 ?hp14 ?hx14 ?o14 ?r14 ?ii14 ?it14 ?is14 ?il14 ?ic14 ?id14 ?iv14 ?ig14 ?ie14 ?iq14 ?iw14 ?ix14 ?n14_part ?cg15 ?hg15 ?hk15 ?hs15 ?hd15 ?hc15 ?hm15 ?ht15 ?hp15 ?hx15 ?o15 ?r15 ?ii15 ?it15 ?is15 ?il15 ?ic15 ?id15 ?iv15 ?ig15 ?ie15 ?iq15 ?iw15 ?ix15 ?n15_at ?cg16 ?hg16 ?hk16 ?hs16 ?hd16 ?hc16 ?hm16 ?ht16 ?hp16 ?hx16 ?o16 ?r16 ?ii16 ?it16 ?is16 ?il16 ?ic16 ?id16 ?iv16 ?ig16 ?ie16 ?iq16 ?iw16 ?ix16 ?n16_deed ?cg17 ?hg17 ?hk17 ?hs17 ?hd17 ?hc17 ?hm17 ?ht17 ?hp17 ?hx17 ?ex17 ?cg18 ?hg18 ?hk18 ?hs18 ?hd18 ?hc18 ?hm18 ?ht18 ?hp18 ?hx18 ?o18 ?r18 ?ii18 ?it18 ?is18 ?il18 ?ic18 ?id18 ?iv18 ?ig18 ?ie18 ?iq18 ?iw18 ?ix18 ?n18_at ?cg19 ?hg19 ?hk19 ?hs19 ?hd19 ?hc19 ?hm19 ?ht19 ?hp19 ?hx19 ?o19 ?r19 ?ii19 ?it19 ?is19 ?il19 ?ic19 ?id19 ?iv19 ?ig19 ?ie19 ?iq19 ?iw19 ?ix19 ?n19_line ?cg20 ?hg20 ?hk20 ?hs20 ?hd20 ?hc20 ?hm20 ?ht20 ?hp20 ?hx20 ?o20 ?r20 ?ii20 ?it20 ?is20 ?il20 ?ic20 ?id20 ?iv20 ?ig20 ?ie20 ?iq20 ?iw20 ?ix20 ?n20_name ?pairs ?fars ?ups ?wv
    (case a1 => k_is)
    (case l1 => k_is)
    (case k1 => k_is)
    (case p1 => k_is)
    (case a2 => k_is)
    (case l2 => k_is)
    (case k2 => k_is)
    (case p2 => k_is)
    (case a3 => k_is)
    (case l3 => k_is)
    (case k3 => k_is)
    (case p3 => k_is)
    (case a4 => k_is)
    (case l4 => k_is)
    (case k4 => k_is)
    (case p4 => k_is)
    (case a5 => k_is)
    (case l5 => k_is)
    (case k5 => k_is)
    (case p5 => k_is)
    (case a6 => k_is)
    (case l6 => k_is)
    (case k6 => k_is)
    (case p6 => k_is)
    (case a7 => k_is)
    (case l7 => k_is)
    (case k7 => k_is)
    (case p7 => k_is)
    (case a8 => k_is)
    (case l8 => k_is)
    (case k8 => k_is)
    (case p8 => k_is)
    (case a9 => k_is)
    (case l9 => k_is)
    (case k9 => k_is)
    (case p9 => k_is)
    (case a10 => k_is)
    (case l10 => k_is)
    (case k10 => k_is)
    (case p10 => k_is)
    (case a11 => k_is)
    (case l11 => k_is)
    (case k11 => k_is)
    (case p11 => k_is)
    (case z_abs => k_is)
    (case z_int => k_is)
    (case z_len => k_is)
    (case z_list => k_is)
    (case z_tuple => k_is)
    (case z_range => k_is)
    (case z_sorted => k_is)
    (case z_isinstance => k_is)
    (case z_str => k_is)
    (case z_bool => k_is)
    (case z_all => k_is)
    (case z_set => k_is)
    (case z_repr => k_is)
    (case z_min => k_is)
    (case z_zip => k_is)
    (case z_dict => k_is)
    (case z_enumerate => k_is)
    (case z_ValueError => k_is)
    (case z_super => k_is)
    (case ca => k_is)
    (case cl => k_is)
    (case cc => k_is)
    (case ck => k_is)
    (case ct => k_is)
    (case hn => k_is)
    (case ht => k_is)
    (case thr => k_is)
    (case top => kernel_rfl)
    (case cgW => k_is)
    (case hgW => k_is)
    (case hkW => k_is)
    (case hsW => k_is)
    (case hdW => k_is)
    (case hcW => k_is)
    (case hmW => k_is)
    (case htW => k_is)
    (case hpW => k_is)
    (case hxW => k_is)
    (case exW => k_exc)
    (case cg0 => k_is)
    (case hg0 => k_is)
    (case hk0 => k_is)
    (case hs0 => k_is)
    (case hd0 => k_is)
    (case hc0 => k_is)
    (case hm0 => k_is)
    (case ht0 => k_is)
    (case hp0 => k_is)
    (case hx0 => k_is)
    (case ex0 => k_exc)
    (case cg1 => k_is)
    (case hg1 => k_is)
    (case hk1 => k_is)
    (case hs1 => k_is)
    (case hd1 => k_is)
    (case hc1 => k_is)
    (case hm1 => k_is)
    (case ht1 => k_is)
    (case hp1 => k_is)
    (case hx1 => k_is)
    (case ex1 => k_exc)
    (case cg2 => k_is)
    (case hg2 => k_is)
    (case hk2 => k_is)
    (case hs2 => k_is)
    (case hd2 => k_is)
    (case hc2 => k_is)
    (case hm2 => k_is)
    (case ht2 => k_is)
    (case hp2 => k_is)
    (case hx2 => k_is)
    (case ex2 => k_exc)
    (case cg3 => k_is)
    (case hg3 => k_is)
    (case hk3 => k_is)
    (case hs3 => k_is)
    (case hd3 => k_is)
    (case hc3 => k_is)
    (case hm3 => k_is)
    (case ht3 => k_is)
    (case hp3 => k_is)
    (case hx3 => k_is)
    (case o3 => k_is)
    (case r3 => kernel_rfl)
    (case ii3 => k_is)
    (case it3 => k_is)
    (case is3 => k_is)
    (case il3 => k_is)
    (case ic3 => k_is)
    (case id3 => k_is)
    (case iv3 => rfl)
    (case ig3 => kernel_rfl)
    (case ie3 => k_is)
    (case iq3 => kernel_rfl)
    (case iw3 => k_is)
    (case ix3 => k_is)
    (case n3_what => k_is)
    (case n3_most => k_is)
    (case cg4 => k_is)
    (case hg4 => k_is)
    (case hk4 => k_is)
    (case hs4 => k_is)
    (case hd4 => k_is)
    (case hc4 => k_is)
    (case hm4 => k_is)
    (case ht4 => k_is)
    (case hp4 => k_is)
    (case hx4 => k_is)
    (case o4 => k_is)
    (case r4 => kernel_rfl)
    (case ii4 => k_is)
    (case it4 => k_is)
    (case is4 => k_is)
    (case il4 => k_is)
    (case ic4 => k_is)
    (case id4 => k_is)
    (case iv4 => rfl)
    (case ig4 => kernel_rfl)
    (case ie4 => k_is)
    (case iq4 => kernel_rfl)
    (case iw4 => k_is)
    (case ix4 => k_is)
    (case n4_part => k_is)
    (case cg5 => k_is)
    (case hg5 => k_is)
    (case hk5 => k_is)
    (case hs5 => k_is)
    (case hd5 => k_is)
    (case hc5 => k_is)
    (case hm5 => k_is)
    (case ht5 => k_is)
    (case hp5 => k_is)
    (case hx5 => k_is)
    (case ex5 => k_exc)
    (case cg6 => k_is)
    (case hg6 => k_is)
    (case hk6 => k_is)
    (case hs6 => k_is)
    (case hd6 => k_is)
    (case hc6 => k_is)
    (case hm6 => k_is)
    (case ht6 => k_is)
    (case hp6 => k_is)
    (case hx6 => k_is)
    (case o6 => k_is)
    (case r6 => kernel_rfl)
    (case ii6 => k_is)
    (case it6 => k_is)
    (case is6 => k_is)
    (case il6 => k_is)
    (case ic6 => k_is)
    (case id6 => k_is)
    (case iv6 => rfl)
    (case ig6 => kernel_rfl)
    (case ie6 => k_is)
    (case iq6 => kernel_rfl)
    (case iw6 => k_is)
    (case ix6 => k_is)
    (case n6_part => k_is)
    (case cg7 => k_is)
    (case hg7 => k_is)
    (case hk7 => k_is)
    (case hs7 => k_is)
    (case hd7 => k_is)
    (case hc7 => k_is)
    (case hm7 => k_is)
    (case ht7 => k_is)
    (case hp7 => k_is)
    (case hx7 => k_is)
    (case o7 => k_is)
    (case r7 => kernel_rfl)
    (case ii7 => k_is)
    (case it7 => k_is)
    (case is7 => k_is)
    (case il7 => k_is)
    (case ic7 => k_is)
    (case id7 => k_is)
    (case iv7 => rfl)
    (case ig7 => kernel_rfl)
    (case ie7 => k_is)
    (case iq7 => kernel_rfl)
    (case iw7 => k_is)
    (case ix7 => k_is)
    (case n7_packet => k_is)
    (case cg8 => k_is)
    (case hg8 => k_is)
    (case hk8 => k_is)
    (case hs8 => k_is)
    (case hd8 => k_is)
    (case hc8 => k_is)
    (case hm8 => k_is)
    (case ht8 => k_is)
    (case hp8 => k_is)
    (case hx8 => k_is)
    (case o8 => k_is)
    (case r8 => kernel_rfl)
    (case ii8 => k_is)
    (case it8 => k_is)
    (case is8 => k_is)
    (case il8 => k_is)
    (case ic8 => k_is)
    (case id8 => k_is)
    (case iv8 => rfl)
    (case ig8 => kernel_rfl)
    (case ie8 => k_is)
    (case iq8 => kernel_rfl)
    (case iw8 => k_is)
    (case ix8 => k_is)
    (case n8_most => k_is)
    (case cg9 => k_is)
    (case hg9 => k_is)
    (case hk9 => k_is)
    (case hs9 => k_is)
    (case hd9 => k_is)
    (case hc9 => k_is)
    (case hm9 => k_is)
    (case ht9 => k_is)
    (case hp9 => k_is)
    (case hx9 => k_is)
    (case o9 => k_is)
    (case r9 => kernel_rfl)
    (case ii9 => k_is)
    (case it9 => k_is)
    (case is9 => k_is)
    (case il9 => k_is)
    (case ic9 => k_is)
    (case id9 => k_is)
    (case iv9 => rfl)
    (case ig9 => kernel_rfl)
    (case ie9 => k_is)
    (case iq9 => kernel_rfl)
    (case iw9 => k_is)
    (case ix9 => k_is)
    (case n9_place => k_is)
    (case cg10 => k_is)
    (case hg10 => k_is)
    (case hk10 => k_is)
    (case hs10 => k_is)
    (case hd10 => k_is)
    (case hc10 => k_is)
    (case hm10 => k_is)
    (case ht10 => k_is)
    (case hp10 => k_is)
    (case hx10 => k_is)
    (case o10 => k_is)
    (case r10 => kernel_rfl)
    (case ii10 => k_is)
    (case it10 => k_is)
    (case is10 => k_is)
    (case il10 => k_is)
    (case ic10 => k_is)
    (case id10 => k_is)
    (case iv10 => rfl)
    (case ig10 => kernel_rfl)
    (case ie10 => k_is)
    (case iq10 => kernel_rfl)
    (case iw10 => k_is)
    (case ix10 => k_is)
    (case n10_word => k_is)
    (case cg11 => k_is)
    (case hg11 => k_is)
    (case hk11 => k_is)
    (case hs11 => k_is)
    (case hd11 => k_is)
    (case hc11 => k_is)
    (case hm11 => k_is)
    (case ht11 => k_is)
    (case hp11 => k_is)
    (case hx11 => k_is)
    (case o11 => k_is)
    (case r11 => kernel_rfl)
    (case ii11 => k_is)
    (case it11 => k_is)
    (case is11 => k_is)
    (case il11 => k_is)
    (case ic11 => k_is)
    (case id11 => k_is)
    (case iv11 => rfl)
    (case ig11 => kernel_rfl)
    (case ie11 => k_is)
    (case iq11 => kernel_rfl)
    (case iw11 => k_is)
    (case ix11 => k_is)
    (case n11_at => k_is)
    (case cg12 => k_is)
    (case hg12 => k_is)
    (case hk12 => k_is)
    (case hs12 => k_is)
    (case hd12 => k_is)
    (case hc12 => k_is)
    (case hm12 => k_is)
    (case ht12 => k_is)
    (case hp12 => k_is)
    (case hx12 => k_is)
    (case o12 => k_is)
    (case r12 => kernel_rfl)
    (case ii12 => k_is)
    (case it12 => k_is)
    (case is12 => k_is)
    (case il12 => k_is)
    (case ic12 => k_is)
    (case id12 => k_is)
    (case iv12 => rfl)
    (case ig12 => kernel_rfl)
    (case ie12 => k_is)
    (case iq12 => kernel_rfl)
    (case iw12 => k_is)
    (case ix12 => k_is)
    (case n12_path => k_is)
    (case cg13 => k_is)
    (case hg13 => k_is)
    (case hk13 => k_is)
    (case hs13 => k_is)
    (case hd13 => k_is)
    (case hc13 => k_is)
    (case hm13 => k_is)
    (case ht13 => k_is)
    (case hp13 => k_is)
    (case hx13 => k_is)
    (case ex13 => k_exc)
    (case cg14 => k_is)
    (case hg14 => k_is)
    (case hk14 => k_is)
    (case hs14 => k_is)
    (case hd14 => k_is)
    (case hc14 => k_is)
    (case hm14 => k_is)
    (case ht14 => k_is)
    (case hp14 => k_is)
    (case hx14 => k_is)
    (case o14 => k_is)
    (case r14 => kernel_rfl)
    (case ii14 => k_is)
    (case it14 => k_is)
    (case is14 => k_is)
    (case il14 => k_is)
    (case ic14 => k_is)
    (case id14 => k_is)
    (case iv14 => rfl)
    (case ig14 => kernel_rfl)
    (case ie14 => k_is)
    (case iq14 => kernel_rfl)
    (case iw14 => k_is)
    (case ix14 => k_is)
    (case n14_part => k_is)
    (case cg15 => k_is)
    (case hg15 => k_is)
    (case hk15 => k_is)
    (case hs15 => k_is)
    (case hd15 => k_is)
    (case hc15 => k_is)
    (case hm15 => k_is)
    (case ht15 => k_is)
    (case hp15 => k_is)
    (case hx15 => k_is)
    (case o15 => k_is)
    (case r15 => kernel_rfl)
    (case ii15 => k_is)
    (case it15 => k_is)
    (case is15 => k_is)
    (case il15 => k_is)
    (case ic15 => k_is)
    (case id15 => k_is)
    (case iv15 => rfl)
    (case ig15 => kernel_rfl)
    (case ie15 => k_is)
    (case iq15 => kernel_rfl)
    (case iw15 => k_is)
    (case ix15 => k_is)
    (case n15_at => k_is)
    (case cg16 => k_is)
    (case hg16 => k_is)
    (case hk16 => k_is)
    (case hs16 => k_is)
    (case hd16 => k_is)
    (case hc16 => k_is)
    (case hm16 => k_is)
    (case ht16 => k_is)
    (case hp16 => k_is)
    (case hx16 => k_is)
    (case o16 => k_is)
    (case r16 => kernel_rfl)
    (case ii16 => k_is)
    (case it16 => k_is)
    (case is16 => k_is)
    (case il16 => k_is)
    (case ic16 => k_is)
    (case id16 => k_is)
    (case iv16 => rfl)
    (case ig16 => kernel_rfl)
    (case ie16 => k_is)
    (case iq16 => kernel_rfl)
    (case iw16 => k_is)
    (case ix16 => k_is)
    (case n16_deed => k_is)
    (case cg17 => k_is)
    (case hg17 => k_is)
    (case hk17 => k_is)
    (case hs17 => k_is)
    (case hd17 => k_is)
    (case hc17 => k_is)
    (case hm17 => k_is)
    (case ht17 => k_is)
    (case hp17 => k_is)
    (case hx17 => k_is)
    (case ex17 => k_exc)
    (case cg18 => k_is)
    (case hg18 => k_is)
    (case hk18 => k_is)
    (case hs18 => k_is)
    (case hd18 => k_is)
    (case hc18 => k_is)
    (case hm18 => k_is)
    (case ht18 => k_is)
    (case hp18 => k_is)
    (case hx18 => k_is)
    (case o18 => k_is)
    (case r18 => kernel_rfl)
    (case ii18 => k_is)
    (case it18 => k_is)
    (case is18 => k_is)
    (case il18 => k_is)
    (case ic18 => k_is)
    (case id18 => k_is)
    (case iv18 => rfl)
    (case ig18 => kernel_rfl)
    (case ie18 => k_is)
    (case iq18 => kernel_rfl)
    (case iw18 => k_is)
    (case ix18 => k_is)
    (case n18_at => k_is)
    (case cg19 => k_is)
    (case hg19 => k_is)
    (case hk19 => k_is)
    (case hs19 => k_is)
    (case hd19 => k_is)
    (case hc19 => k_is)
    (case hm19 => k_is)
    (case ht19 => k_is)
    (case hp19 => k_is)
    (case hx19 => k_is)
    (case o19 => k_is)
    (case r19 => kernel_rfl)
    (case ii19 => k_is)
    (case it19 => k_is)
    (case is19 => k_is)
    (case il19 => k_is)
    (case ic19 => k_is)
    (case id19 => k_is)
    (case iv19 => rfl)
    (case ig19 => kernel_rfl)
    (case ie19 => k_is)
    (case iq19 => kernel_rfl)
    (case iw19 => k_is)
    (case ix19 => k_is)
    (case n19_line => k_is)
    (case cg20 => k_is)
    (case hg20 => k_is)
    (case hk20 => k_is)
    (case hs20 => k_is)
    (case hd20 => k_is)
    (case hc20 => k_is)
    (case hm20 => k_is)
    (case ht20 => k_is)
    (case hp20 => k_is)
    (case hx20 => k_is)
    (case o20 => k_is)
    (case r20 => kernel_rfl)
    (case ii20 => k_is)
    (case it20 => k_is)
    (case is20 => k_is)
    (case il20 => k_is)
    (case ic20 => k_is)
    (case id20 => k_is)
    (case iv20 => rfl)
    (case ig20 => kernel_rfl)
    (case ie20 => k_is)
    (case iq20 => kernel_rfl)
    (case iw20 => k_is)
    (case ix20 => k_is)
    (case n20_name => k_is)
    (case pairs => kernel_rfl)
    (case fars => kernel_rfl)
    (case ups => kernel_rfl)
    (case wv => kit_is)
