import PyProof.Rows.All
import Wide.All
import OpenK.AllK
import Wide.FinOn
import HandS.ForMost
import HandS.Wide
import HandS.IsInst
import HandS.SortInts
import HandS.Flow
import HandS.TupAny
import HandS.Defaults
import HandS.Text
import HandS.EndBits
import HandS.Evl
import PyProof.ReprRoads
import PyProof.StrLawsRepr
import PyProof.FitsInt
import HandS.Walk
import HandS.SetKeys
import HandS.Strs
import HandS.SetFor
import HandS.Zip
import PyProof.EqAt
import PyProof.EqKinds
import HandS.DictEq
import HandS.TupSets
import KE.KDictZip
import KE.GoesMore
import KE.KItemsList
import HandS.ListItems
import HandS.Star
import HandS.Iter
import KE.DataEq
import HandS.Finally
import HandS.Style
import HandS.DeepEq
import HandS.Exc
import HandS.ExcOwn
import HandS.ExcIs
import HandS.Lambda
import HandS.ExcValue
import HandS.EndTab
import KE.KNestM
import PySem.Challenge.RW_markedways_k03_fields_and_numbers_refuse
set_option Elab.async false
set_option linter.all false
set_option maxRecDepth 100000
set_option maxHeartbeats 4000000
/-! ### draws: the state of a script's draws, and what else is known -/
namespace Mw
open PySem PySem.Spec PyProof.Rows L2

/-- where the state of the draws stands: its dict, its list of wide numbers, its list of cells -/
structure Wd where
  d : Addr
  w : Addr
  c : Addr
/-- what is known besides the state of the draws -/
def mk (W : Wd) (H : Hp) : Hp := fun a => if a = W.d ∨ a = W.w ∨ a = W.c then none else H a
theorem mk_le (W : Wd) (H : Hp) : Same (mk W H) H := fun a o h => by
  unfold mk at h
  split at h
  · cases h
  · exact h
theorem mk_of {W : Wd} {H : Hp} {a : Addr} {o : HO} (h : H a = some o) (hd : a ≠ W.d) (hw : a ≠ W.w) (hc : a ≠ W.c) : mk W H a = some o := by
  unfold mk
  rw [if_neg (fun z => z.elim hd fun z => z.elim hw hc)]
  exact h
theorem mk_d {W : Wd} {H : Hp} : mk W H W.d = none := by
  unfold mk
  rw [if_pos (Or.inl rfl)]
theorem mk_w {W : Wd} {H : Hp} : mk W H W.w = none := by
  unfold mk
  rw [if_pos (Or.inr (Or.inl rfl))]
theorem mk_c {W : Wd} {H : Hp} : mk W H W.c = none := by
  unfold mk
  rw [if_pos (Or.inr (Or.inr rfl))]
theorem mk_none {W : Wd} {H : Hp} {a : Addr} (h : H a = none) : mk W H a = none := by
  unfold mk
  split
  · rfl
  · exact h
theorem mk_same {W : Wd} {H H' : Hp} (e : Same H H') : Same (mk W H) (mk W H') := fun a o h => by
  unfold mk at h ⊢
  split at h
  · cases h
  · rename_i z
    rw [if_neg z]
    exact e a o h
/-- draws change nothing else -/
theorem mk_upd_d {W : Wd} {H : Hp} {o : HO} : mk W (upd H W.d o) = mk W H := by
  funext a
  unfold mk
  split
  · rfl
  · rename_i z
    rw [upd_ne (fun e => z (Or.inl e))]
theorem mk_upd_w {W : Wd} {H : Hp} {o : HO} : mk W (upd H W.w o) = mk W H := by
  funext a
  unfold mk
  split
  · rfl
  · rename_i z
    rw [upd_ne (fun e => z (Or.inr (Or.inl e)))]
def kvs0 (W : Wd) (r t : Int) : List (Key × V) := [(.inr "wide", .ref W.w), (.inr "cells", .ref W.c), (.inr "rest", .int r), (.inr "turn", .int t)]
theorem kv_wide (W : Wd) (r t : Int) : valV (kvs0 W r t) (.inr "wide" : Key) = some (.ref W.w) := by rfl
theorem kv_cells (W : Wd) (r t : Int) : valV (kvs0 W r t) (.inr "cells" : Key) = some (.ref W.c) := by rfl
theorem kv_rest (W : Wd) (r t : Int) : valV (kvs0 W r t) (.inr "rest" : Key) = some (.int r) := by rfl
theorem kv_turn (W : Wd) (r t : Int) : valV (kvs0 W r t) (.inr "turn" : Key) = some (.int t) := by rfl
theorem pk_rest (W : Wd) (r t r' : Int) : putK (kvs0 W r t) (.inr "rest" : Key) (.int r') = kvs0 W r' t := by rfl
theorem pk_turn (W : Wd) (r t t' : Int) : putK (kvs0 W r t) (.inr "turn" : Key) (.int t') = kvs0 W r t' := by rfl
structure StAt (W : Wd) (r t : Int) (ns cs : List Int) (H : Hp) : Prop where
  d : H W.d = some (.dK (kvs0 W r t))
  w : H W.w = some (.lst (ns.map V.int))
  c : H W.c = some (.lst (cs.map V.int))
  ne : W.c ≠ W.w
  cs : ∀ x ∈ cs, 0 ≤ x ∧ x < 2147483629
  t0 : 0 ≤ t
/-- the state stands, at most n more numbers were mixed -/
def StOk (W : Wd) (n : Nat) (H : Hp) : Prop := ∃ (r t : Int) (ns cs : List Int), StAt W r t ns cs H ∧ t ≤ n
theorem StAt.nwd {W : Wd} {r t : Int} {ns cs : List Int} {H : Hp} (S : StAt W r t ns cs H) : W.w ≠ W.d := ne_of S.w S.d (by intro z; cases z)
theorem StAt.ncd {W : Wd} {r t : Int} {ns cs : List Int} {H : Hp} (S : StAt W r t ns cs H) : W.c ≠ W.d := ne_of S.c S.d (by intro z; cases z)
theorem StOk.mono {W : Wd} {n m : Nat} {H : Hp} (h : StOk W n H) (l : n ≤ m) : StOk W m H := by
  obtain ⟨r, t, ns, cs, S, ht⟩ := h
  exact ⟨r, t, ns, cs, S, by omega⟩
theorem StOk.same {W : Wd} {n : Nat} {H H' : Hp} (h : StOk W n H) (e : Same H H') : StOk W n H' := by
  obtain ⟨r, t, ns, cs, S, ht⟩ := h
  exact ⟨r, t, ns, cs, ⟨e _ _ S.d, e _ _ S.w, e _ _ S.c, S.ne, S.cs, S.t0⟩, ht⟩
theorem StOk.nd {W : Wd} {n : Nat} {H : Hp} (h : StOk W n H) : H W.d ≠ none := by
  obtain ⟨r, t, ns, cs, S, ht⟩ := h
  rw [S.d]
  exact fun z => nomatch z
theorem StOk.nw {W : Wd} {n : Nat} {H : Hp} (h : StOk W n H) : H W.w ≠ none := by
  obtain ⟨r, t, ns, cs, S, ht⟩ := h
  rw [S.w]
  exact fun z => nomatch z
theorem StOk.nc {W : Wd} {n : Nat} {H : Hp} (h : StOk W n H) : H W.c ≠ none := by
  obtain ⟨r, t, ns, cs, S, ht⟩ := h
  rw [S.c]
  exact fun z => nomatch z
theorem same_upd {H : Hp} {p : Addr} {o : HO} (h : H p = none) : Same H (upd H p o) := fun b x e => by
  rw [upd_ne (ne_of_none e h)]
  exact e
/-- a new object -/
theorem new_at {W : Wd} {n : Nat} {H H1 : Hp} {p : Addr} {o : HO} (S : StOk W n H) (np : H p = none) (e : upd H p o = H1) : StOk W n H1 ∧ Same (mk W H) (mk W H1) ∧ mk W H1 p = some o ∧ mk W H p = none := by
  subst e
  refine ⟨S.same (same_upd np), mk_same (same_upd np), mk_of upd_same (fun z => ?_) (fun z => ?_) (fun z => ?_), mk_none np⟩
  · rw [z] at np
    exact S.nd np
  · rw [z] at np
    exact S.nw np
  · rw [z] at np
    exact S.nc np
/-- an object of one's own changes -/
theorem own_at {W : Wd} {n : Nat} {H H1 : Hp} {p : Addr} {o o' : HO} (S : StOk W n H) (hp : mk W H p = some o') (e : upd H p o = H1) :
    StOk W n H1 ∧ mk W H1 p = some o ∧ ∀ (a : Addr) (u : HO), a ≠ p → mk W H a = some u → mk W H1 a = some u := by
  subst e
  have nd : p ≠ W.d := fun z => by
    rw [z, mk_d] at hp
    cases hp
  have nw : p ≠ W.w := fun z => by
    rw [z, mk_w] at hp
    cases hp
  have nc : p ≠ W.c := fun z => by
    rw [z, mk_c] at hp
    cases hp
  obtain ⟨r, t, ns, cs, S, ht⟩ := S
  refine ⟨⟨r, t, ns, cs, ⟨?_, ?_, ?_, S.ne, S.cs, S.t0⟩, ht⟩, mk_of upd_same nd nw nc, fun a u na h1 => ?_⟩
  · rw [upd_ne nd.symm]
    exact S.d
  · rw [upd_ne nw.symm]
    exact S.w
  · rw [upd_ne nc.symm]
    exact S.c
  · unfold mk at h1 ⊢
    split at h1
    · cases h1
    · rename_i z
      rw [if_neg z, upd_ne na]
      exact h1
/-- what a def sees: what it knows of the heap, and a count of what was drawn -/
structure Wo where
  view : Hp → Hp
  ok : Nat → Hp → Prop
  le : ∀ H, Same (view H) H
  mono : ∀ {n m H}, ok n H → n ≤ m → ok m H
  new : ∀ {n H H1 p o}, ok n H → H p = none → upd H p o = H1 → ok n H1 ∧ Same (view H) (view H1) ∧ view H1 p = some o ∧ view H p = none
  own : ∀ {n H H1 p o o'}, ok n H → view H p = some o' → upd H p o = H1 → ok n H1 ∧ view H1 p = some o ∧ ∀ (a : Addr) (u : HO), a ≠ p → view H a = some u → view H1 a = some u
/-- the world of the draws -/
def wd (W : Wd) : Wo := ⟨mk W, StOk W, mk_le W, fun h l => h.mono l, new_at, own_at⟩
/-- an object of one's own changes: what was known before it was made stands -/
theorem Wo.keep (U : Wo) {H H1 M : Hp} {p : Addr} (o : ∀ (a : Addr) (u : HO), a ≠ p → U.view H a = some u → U.view H1 a = some u) (hM : M p = none) (e : Same M (U.view H)) : Same M (U.view H1) := fun a u h =>
  o a u (ne_of_none h hM) (e a u h)
/-- behind a def that changes nothing that was known -/
theorem adv_same {W : Wd} {n : Nat} {H H1 : Hp} (S : StOk W n H) (e : Same H H1) : StOk W n H1 ∧ Same (mk W H) (mk W H1) := ⟨S.same e, mk_same e⟩

/-! ### the same facts later -/
theorem sqL_at {K : PySem.W.Frag} {H H' : Hp} {a : Addr} {xs : List V} (h : H a = some (.lst xs)) (e : Same H H') : SqL K H' a xs := .inl (.inl (e _ _ h))
theorem sqT_at {K : PySem.W.Frag} {H H' : Hp} {a : Addr} {xs : List V} (h : H a = some (.tup xs)) (e : Same H H') : SqT K H' a xs := .inl (.inl (e _ _ h))
theorem seqT {K : PySem.W.Frag} {H H' : Hp} {a : Addr} {xs : List V} (e : Same H H') (h : SqT K H a xs) : SqT K H' a xs := by
  rcases h with (h | ⟨o, h⟩) | h
  · exact .inl (.inl (e _ _ h))
  · exact .inl (.inr ⟨o, e _ _ h⟩)
  · exact .inr h
end Mw
/-! ### defs that are called where no repr is under way -/
namespace Mw
open PySem PySem.Spec PyProof.Rows L2

/-- room for k calls, and nothing is being shown -/
structure Rm (k : Nat) (A : Around) : Prop where
  r : Room k A
  g : A.guards = some []
theorem Rm.mono {j k : Nat} {A : Around} (h : Rm k A) (l : j ≤ k) : Rm j A := ⟨h.r.mono l, h.g⟩
theorem guards_deeper (A : Around) (env : Env) : (A.deeper env).guards = A.guards := rfl
structure FnG (P : Program) (w : World) (K : PySem.W.Frag) (mg : Str → Option Value) (base : Heap) (k : Nat) (f : Addr) (fd : FuncData) (ps : List Str) (sp : Sp) : Prop where
  ln : ∀ vs H Q E, sp vs H Q E → vs.length = ps.length
  go : ∀ (A : Around) (outer : List Env) (s : Shared) (H : Hp) (args : Args) (us : List Value) (vs : List V) (Q : VK) (E : XK), Rm k A → Env0 P w K mg base A outer s H →
    BindsTo s fd args (ps.zip us) → Vals vs us → sp vs H Q E → codeAny (model P w) A (.call (.ref f) args) (CR CX0 outer P w H s Q E) s
section
variable {P : Program} {w : World} {K : PySem.W.Frag} {mg : Str → Option Value} {base : Heap}
theorem FnG.mono {j k : Nat} {f : Addr} {fd : FuncData} {ps : List Str} {sp : Sp} (F : FnG P w K mg base j f fd ps sp) (h : j ≤ k) : FnG P w K mg base k f fd ps sp :=
  ⟨F.ln, fun A outer s H args us vs Q E hr => F.go A outer s H args us vs Q E (hr.mono h)⟩
theorem FnG.of {k : Nat} {f : Addr} {fd : FuncData} {ps : List Str} {sp : Sp} (F : FnOk P w K mg base CX0 k f fd ps sp) : FnG P w K mg base k f fd ps sp :=
  ⟨F.len, fun A outer s H args us vs Q E hr => F.run A outer s H args us vs Q E hr.r⟩
/-- the end of a def's body -/
theorem body_end {X : Cx} {Q : VK} {fl : Flow} {s' : Shared} (h : SP X [] { nx := fun _ H' => Q .non H', rt := Q } fl s') :
    match (Except.ok fl : Result) with
    | .ok .next => ∃ v σ' H', Inv X [] σ' H' s' ∧ RelV v Value.none ∧ Q v H'
    | .ok (.ret u) => ∃ v σ' H', Inv X [] σ' H' s' ∧ RelV v u ∧ Q v H'
    | _ => False := by
  cases fl with
  | next =>
    obtain ⟨a, b, c, d⟩ := h
    exact ⟨.non, a, b, c, rfl, d⟩
  | ret u =>
    obtain ⟨v, a, b, c, r, d⟩ := h
    exact ⟨v, a, b, c, r, d⟩
  | brk =>
    obtain ⟨_, _, _, z⟩ := h
    exact z
  | cont =>
    obtain ⟨_, _, _, z⟩ := h
    exact z
theorem fnG {x qual : Str} {st : Stmt} {f : Addr} {fd : FuncData} {N ps : List Str} {k : Nat} {sp : Sp} (F : Fun K x qual st f fd) (S : FnScope N ps (defScope st)) (ln : ∀ vs H Q E, sp vs H Q E → vs.length = ps.length)
    (body : ∀ (cdv : Value) (A : Around) (outer : List Env) (s : Shared) (H : Hp) (vs : List V) (Q : VK) (E : XK), Rm k (A.deeper (envOfC qual (defScope st) s.heap.objs.size f cdv)) → sp vs H Q E →
      ∃ t, PSs (cxOf CX0 P w K mg base N qual (defScope st) f cdv A outer s H E).nox (defBody st) t ∧ t { nx := fun _ H' => Q .non H', rt := Q } (start N vs) H) : FnG P w K mg base (k + 1) f fd ps sp := by
  obtain ⟨oc, od, kV, doc, pm, an, cdv, ct, osl, rfl, look, code⟩ := F.ex
  refine ⟨ln, ?_⟩
  intro A outer s H args us vs Q E room e0 binds rel promise
  have stay : ∀ b o, base.get? b = some o → s.heap.get? b = some o := fun b o z => (e0.bs b o z).1
  have inK : K.In s.heap := e0.mod.kin.keeps stay
  have named : ∀ y ∈ ps.zip us, (defScope st).names.lookup y.1 = some .local ∨ ((defScope st).names.lookup y.1 = some .cell ∧ ((cellsFrom (s.heap.objs.size + 1) (defScope st).names []).lookup y.1).isSome = true) := by
    intro y hy
    have hp : y.1 ∈ ps := (List.of_mem_zip (a := y.1) (b := y.2) hy).1
    cases S.par y.1 hp with
    | inl z => exact .inl z
    | inr z => exact .inr ⟨z, PySem.W.cellsFrom_some _ _ _ (.inl z)⟩
  refine codeAny_call_function room.r.depth (inK _ _ look) rfl S.co S.gen rfl (PySem.W.codeRec_of inK code) (binds _ _ _ _ ?_)
  refine wpAny_newFunctionEnv_cells S.kind named ?_
  intro env same s1 began
  cases same
  refine ⟨(e0.mod.nolimit.keeps stay).keeps began.toInCall.keep, codeAny_func ?_⟩
  obtain ⟨t, ht, hq⟩ := body cdv A outer s H vs Q E ⟨room.r.deeper _, room.g⟩ promise
  have I := inv_start (CX := CX0) (E := E) (qual := qual) (N := N) S room.r.hd e0 (ln _ _ _ _ promise) rel began
  have leave : ∀ {σ' : L2.St} {H' : Hp} {v : V} {u : Value} {s' : Shared}, Inv (cxOf CX0 P w K mg base N qual (defScope st) f cdv A outer s H E) [] σ' H' s' → RelV v u → Q v H' → CE outer P w H s Q u s' := by
    intro σ' H' v u s' J rv q
    exact ⟨v, H', J.os, J.bare, J.base, J.hok, rv, q⟩
  refine wpAny_mono (ht.nox.run [] s1 (start N vs) H _ I hq) ?_ ?_
  · intro fl s' done
    have z := body_end done
    cases fl with
    | next =>
      obtain ⟨v, σ', H', J, r, q⟩ := z
      exact leave J r q
    | ret u =>
      obtain ⟨v, σ', H', J, r, q⟩ := z
      exact leave J r q
    | brk => exact z.elim
    | cont => exact z.elim
  · intro e s' z
    exact z
end
theorem passAny {X : Cx} {E : XK} : Passes CX0 X E := fun _ _ _ _ _ _ _ h => h.elim
/-- a def of the top that lets no error out: where it stands, how it binds, what it promises -/
structure Def (P : Program) (w : World) (K : PySem.W.Frag) (mg : Str → Option Value) (base : Heap) (x : Str) (k : Nat) (ps : List Str) (sp : Sp) : Prop where
  ex : ∃ (f : Addr) (fd : FuncData), mg x = some (.ref f) ∧ PySem.W.keepIn K (.ref f) = true ∧ Binds K fd ps [] ∧ FnG P w K mg base k f fd ps sp
section
variable {X : Cx} {k : Nat} {ps : List Str} {sp : Sp} {x : Str} {p pos : Pos} {e : Expr} {es : List Expr} {t : TA}
/-- behind a call of such a def -/
theorem callG {pins : List (Addr × Obj)} {σ : L2.St} {H : Hp} {s : Shared} {Q : VK} {f : Addr} {fd : FuncData} {args : Args} {us : List Value} {vs : List V} (F : FnG X.prog X.w X.K X.mg X.base k f fd ps sp) (hr : Rm k X.A)
    (hb : BindsTo s fd args (ps.zip us)) (I : Inv X pins σ H s) (r : Vals vs us) (h : sp vs H Q (fun _ _ _ => False)) : codeAny (model X.prog X.w) X.A (.call (.ref f) args) (fun r s' => match r with | .ok (.ret u) => EP X pins σ Q u s' | _ => False) s := by
  refine codeAny_mono (F.go X.A X.stack s H args us vs Q (fun _ _ _ => False) hr I.env0 hb r h) ?_
  intro res s' done
  cases res with
  | error e => exact (show False from done).elim
  | ok fl =>
    cases fl with
    | ret u => exact I.after done
    | next => exact done.elim
    | brk => exact done.elim
    | cont => exact done.elim
def tGo (sp : Sp) (t : TA) : TE := fun σ H Q => t σ H fun vs H1 => sp vs H1 Q (fun _ _ _ => False)
theorem pe_go (D : Def X.prog X.w X.K X.mg X.base x k ps sp) {j : Nat} (hr : Rm j X.A) (ha : PA X (e :: es) t) (hj : k ≤ j := by decide) (hg : Gl X x := by rfl) (hdb : (x == ("__debug__" : Str)) = false := by decide)
    (he : starEach (e :: es) X.env = (false, eval e X.env) :: starEach es X.env := by rfl) (hpl : (backTo pos (starEach es X.env)).any (·.1) = false := by rfl) :
    PE X (.Call (.Name x p) (e :: es) [] pos) (tGo sp t) := by
  obtain ⟨f, fd, g, kp, b, F⟩ := D.ex
  constructor
  intro pins s σ H Q I h
  refine wpAny_Call_Name_kw (ld_glob I hg g ?_ hdb)
  refine PySem.W.callWith_K (h₀ := X.base) I.ok.mod.kin kp (thn (ha.run pos pins s σ H _ I h) ?_) he hpl
  rintro us s1 ⟨vs, H1, I1, r, q⟩
  refine ⟨I1.kIn, wpAny_call (codeAny_mono (callG F (hr.mono hj) (us := us) ?_ I1 r q) ?_)⟩
  · have z := b s1 us I1.kIn (by rw [List.append_nil, ← r.length]; exact F.ln _ _ _ _ q)
    rwa [List.append_nil] at z
  · intro res s' z
    cases res with
    | error e => exact z.elim
    | ok fl =>
      cases fl with
      | ret u => exact z
      | next => exact z.elim
      | brk => exact z.elim
      | cont => exact z.elim
/-- a call by keywords alone -/
structure DefK (P : Program) (w : World) (K : PySem.W.Frag) (mg : Str → Option Value) (base : Heap) (x : Str) (k : Nat) (ps ks : List Str) (gV : List V → List V) (sp : Sp) : Prop where
  ex : ∃ (f : Addr) (fd : FuncData) (g : List Value → List Value → List Value), mg x = some (.ref f) ∧ PySem.W.keepIn K (.ref f) = true ∧ KBn K fd ps 0 ks g (fun _ zs => gV zs) ∧ FnG P w K mg base k f fd ps sp
def tGoK (n : Nat) (sp : Sp) (gV : List V → List V) (tk : TA) : TE := fun σ H Q => tk σ H fun zs H1 => zs.length = n ∧ sp (gV zs) H1 Q (fun _ _ _ => False)
theorem pe_goK {kws : List Keyword} {ks : List Str} {gV : List V → List V} {tk : TA} (D : DefK X.prog X.w X.K X.mg X.base x k ps ks gV sp) {j : Nat} (hr : Rm j X.A) (hkw : PK X kws tk) (hj : k ≤ j := by decide) (hg : Gl X x := by rfl)
    (hall : (backToKw pos (keywordEach kws X.env)).all (·.1.isSome) = true := by rfl) (hks : (backToKw pos (keywordEach kws X.env)).filterMap (·.1) = ks := by rfl) (hdb : (x == ("__debug__" : Str)) = false := by decide)
    (plain : ((backTo pos (starEach [] X.env)).any (·.1) || (backToKw pos (keywordEach kws X.env)).any (·.1.isNone)) = false := by rfl) :
    PE X (.Call (.Name x p) [] kws pos) (tGoK ks.length sp gV tk) := by
  obtain ⟨f, fd, g, hm, kp, b, F⟩ := D.ex
  constructor
  intro pins s σ H Q I h
  refine wpAny_Call_Name_kw (ld_glob I hg hm ?_ hdb)
  refine PySem.W.callWith_KW0 (h₀ := X.base) I.ok.mod.kin kp hall ?_ plain
  refine thn (hkw.run pos pins s σ H _ I h) ?_
  rintro ws s2 ⟨zs, H2, I2, rz, l2, q2⟩
  refine ⟨I2.kIn, ?_⟩
  rw [hks]
  have rel : Vals (gV zs) (g [] ws) := b.rel (vs := []) .nil rz
  refine wpAny_call (codeAny_mono (callG F (hr.mono hj) (us := g [] ws) (b.to s2 [] ws I2.kIn rfl (rz.length.symm.trans l2)) I2 rel q2) ?_)
  intro res s' z
  cases res with
  | error e => exact z.elim
  | ok fl =>
    cases fl with
    | ret u => exact z
    | next => exact z.elim
    | brk => exact z.elim
    | cont => exact z.elim
end

/-! ### the law's own call -/
section
variable {P : Program} {w : World} {K : PySem.W.Frag} {mg mb : Str → Option Value}
theorem law_at {k : Nat} {fa a : Addr} {fd : FuncData} {x : Str} {sp : Sp} {s₁ : Shared} {vs : List Value} {ns : List Int} {H : Hp}
    (inK : K.In s₁.heap) (G : s₁.heap.Ns mainGlobals mg) (B : s₁.heap.Ns builtinsNs mb) (B2 : ∀ x : Str, x ≠ "__name__" → mb x = bootBuiltins x) (lim : s₁.heap.NoLimit) (gens : s₁.gens = #[])
    (list : ∃ u n, s₁.heap.get? a = some { cls := .type "list", data := .seq u n }) (room : Rm k callerA)
    (F : ∀ base : Heap, K.In base → base.Ns mainGlobals mg → (∃ m, base.Ns sysModules m) → FnG P w K mg base k fa fd [x] sp) (sysm : ∃ m, s₁.heap.Ns sysModules m) (binds : ∀ (s : Shared) (u : Value), BindsTo s fd ⟨[u], []⟩ [(x, u)])
    (sp0 : sp [.ref a] H (fun v _ => v = .bl true) fun _ _ _ => False) (only : Only H) (ok : HOk P w H s₁.heap) (alone : ∀ b, H b ≠ none → b = a) (mine : H a ≠ none → K.lookup a = none) :
    codeAny (model P w) callerA (.call (.ref fa) ⟨[.ref a], []⟩) (fun r s' => r = .ok (.ret (.bool true)) ∧ OldK s₁.heap s'.heap ∧ s'.os = s₁.os ∧ AllBare s'.gens) s₁ := by
  obtain ⟨lu, ln, la⟩ := list
  have free : ∀ {b : Addr} {o : Obj} {es : Array DictEntry} {ep : Nat}, s₁.heap.get? b = some o → o.data = .dict es ep → H b = none := by
    intro b o es ep e d
    apply Classical.byContradiction
    intro z
    rw [alone b z, la] at e
    cases e
    cases d
  have ns : ∀ {b : Addr} {m : Str → Option Value}, s₁.heap.Ns b m → (hidT s₁.heap H).Ns b m := by
    rintro b m ⟨o, es, ep, e, d, r⟩
    exact ⟨o, es, ep, hidT_get e (free e d), d, r⟩
  have baseK : K.In (hidT s₁.heap H) := by
    intro b o e
    refine hidT_get (inK b o e) ?_
    apply Classical.byContradiction
    intro z
    have eb := alone b z
    rw [eb] at e z
    rw [mine z] at e
    cases e
  have M : Mod K mg (hidT s₁.heap H) := by
    refine ⟨baseK, ns G, ⟨mb, ns B, B2⟩, ?_⟩
    obtain ⟨mc, h1, h2⟩ := lim
    exact ⟨mc, ns h1, h2⟩
  have e0 : Env0 P w K mg (hidT s₁.heap H) callerA [] s₁ H := by
    refine ⟨rfl, M, fun b o e => of_hidT e, Nat.le_of_eq (hidT_size _ _), trivial, ?_, ok, .of_eq gens⟩
    intro b hb
    cases hb
  refine codeAny_mono ((F _ baseK (ns G) (sysm.elim fun m z => ⟨m, ns z⟩)).go callerA [] s₁ H ⟨[.ref a], []⟩ [.ref a] [.ref a] _ _ room e0 (binds s₁ (.ref a)) (.cons rfl .nil) sp0) ?_
  intro res s' done
  cases res with
  | error e => exact (show False from done).elim
  | ok fl =>
    cases fl with
    | next => exact done.elim
    | brk => exact done.elim
    | cont => exact done.elim
    | ret u =>
      obtain ⟨v, H', os, bare, un, ok', rel, q⟩ := done
      obtain rfl : v = .bl true := q
      obtain rfl : u = Value.bool true := rel
      refine ⟨rfl, OldK.of_keep ?_, os, bare⟩
      intro b o e
      cases z : H b with
      | none => exact un.keep b o e z (fun y => nomatch y) (fun y => nomatch y)
      | some u =>
        cases only b with
        | inl y =>
          rw [z] at y
          cases y
        | inr y =>
          obtain ⟨ob, xs, y⟩ := y
          obtain ⟨e1, _⟩ := ok b _ y
          obtain ⟨e2, _⟩ := ok' b _ (un.frzs b ob _ y)
          rw [e] at e1
          cases e1
          exact e2
theorem law_callG {k : Nat} {fa a : Addr} {fd : FuncData} {x : Str} {sp : Sp} {s₁ : Shared} {vs : List Value} {ns : List Int}
    (inK : K.In s₁.heap) (G : s₁.heap.Ns mainGlobals mg) (B : s₁.heap.Ns builtinsNs mb) (B2 : ∀ x : Str, x ≠ "__name__" → mb x = bootBuiltins x) (lim : s₁.heap.NoLimit) (gens : s₁.gens = #[])
    (ha : s₁.heap.get? a = some { cls := .type "list", data := .seq vs.toArray }) (isInts : IntsAre vs ns) (size : ns.length ≤ sizeLine) (room : Rm k callerA)
    (F : ∀ base : Heap, K.In base → base.Ns mainGlobals mg → (∃ m, base.Ns sysModules m) → FnG P w K mg base k fa fd [x] sp) (sysm : ∃ m, s₁.heap.Ns sysModules m) (binds : ∀ (s : Shared) (u : Value), BindsTo s fd ⟨[u], []⟩ [(x, u)])
    (hsp : ∀ H : Hp, Only H → SqL K H a (ns.map V.int) → sp [.ref a] H (fun v _ => v = .bl true) fun _ _ _ => False) :
    codeAny (model P w) callerA (.call (.ref fa) ⟨[.ref a], []⟩) (fun r s' => r = .ok (.ret (.bool true)) ∧ OldK s₁.heap s'.heap ∧ s'.os = s₁.os ∧ AllBare s'.gens) s₁ := by
  have rv := vals_ints isInts
  have len := isInts.length
  cases hk : K.lookup a with
  | some o =>
    have e := inK a o hk
    rw [ha] at e
    cases e
    have only : Only (fun _ => none) := fun _ => .inl rfl
    have seq : SqL K (fun _ => none) a (ns.map V.int) := .inr ⟨_, vs.toArray, _, hk, rfl, rfl, rfl, by rw [List.size_toArray, len]; exact size, by simpa using rv⟩
    exact law_at inK G B B2 lim gens ⟨_, _, ha⟩ room F sysm binds (hsp _ only seq) only (fun b u z => nomatch z) (fun b z => absurd rfl z) (fun z => absurd rfl z) (vs := vs) (ns := ns)
  | none =>
    let script : Hp := upd (fun _ => none) a (.frz { cls := .type "list", data := .seq vs.toArray } (.lst (ns.map V.int)))
    have at_ : script a = some (.frz { cls := .type "list", data := .seq vs.toArray } (.lst (ns.map V.int))) := upd_same
    have off : ∀ b, b ≠ a → script b = none := fun b hb => upd_ne hb
    have only : Only script := by
      intro b
      by_cases hb : b = a
      · subst hb
        exact .inr ⟨_, _, at_⟩
      · exact .inl (off b hb)
    refine law_at (H := script) inK G B B2 lim gens ⟨_, _, ha⟩ room F sysm binds (hsp _ only (.inl (.inr ⟨_, at_⟩))) only ?_ ?_ (fun _ => hk) (vs := vs) (ns := ns)
    · intro b u z
      by_cases hb : b = a
      · subst hb
        rw [at_] at z
        cases z
        refine ⟨ha, ?_, vs, _, rv, ha⟩
        rw [List.length_map]
        exact size
      · rw [off b hb] at z
        cases z
    · intro b z
      apply Classical.byContradiction
      intro hb
      exact z (off b hb)
end
theorem walk_G {l : PySem.W.OpenLaw} {n k : Nat} {q : Program} {loose : List Str} {XP : (Str → Option Value) → Heap → Prop} {YP : World → Heap → Prop} {d : DefRec} {K : Params → PySem.W.Frag} {sp : PySem.W.Frag → Sp} {x : Str}
    (most : l.most = some n) (small : n ≤ sizeLine) (plain : d.params.defaults = []) (room : Rm k callerA) (bare : importsNone q = true) (hY : ∀ (w : World) (h : Heap), YP w h → (K w.params).In h)
    (F : ∀ (w : World) (mg : Str → Option Value) (fa : Addr) (h : Heap), (K w.params).In h → h.Ns mainGlobals mg → mg d.name = some (.ref fa) →
      ∃ fd : FuncData, (∀ (s : Shared) (u : Value), BindsTo s fd ⟨[u], []⟩ [(x, u)]) ∧ ∀ base : Heap, (K w.params).In base → base.Ns mainGlobals mg → (∃ m, base.Ns sysModules m) → FnG l.prog w (K w.params) mg base k fa fd [x] (sp (K w.params)))
    (hsp : ∀ (K : PySem.W.Frag) (H : Hp) (a : Addr) (ns : List Int), ns.length ≤ n → (∀ z ∈ ns, Builtin.Int.intBits z ≤ 1048576) → Only H → SqL K H a (ns.map V.int) → sp K [.ref a] H (fun v _ => v = .bl true) fun _ _ _ => False) :
    PySem.W.WalkO q loose XP YP l.row.toRowW d [] (fun f vs => PySem.call f vs) := by
  refine Att.attach_callB most plain ?_
  intro w s₀ s₁ mg mb fa o pm cd doc a vs ns G Y ho hd hcd hmg hobj hints hlen hbits hg
  have inK := hY w _ Y
  obtain ⟨fd, hb, hF⟩ := F w mg fa _ inK G.T.g hmg
  refine law_callG inK G.T.g G.T.b G.T.builtins G.T.nolimit hg hobj hints (Nat.le_trans hlen small) room hF ((G.T.seer bare).mods.elim fun m z => ⟨m, z.1⟩) hb ?_
  intro H hO hS
  exact hsp _ H a ns hlen hbits hO hS
end Mw
namespace Mw
open PySem PySem.Spec PyProof.Rows L2
/-! ### readings, a step at a time -/
section
variable {σ : L2.St} {H : Hp} {Q : VK} {QA : List V → Hp → Prop} {D : Ends} {ta tb te : TE} {t : TA} {i : Nat} {v x y : V} {K : PySem.W.Frag}
theorem rd_var (h : σ[i]? = some (some v)) (q : Q v H) : tVar i σ H Q := ⟨v, h, q⟩
theorem rd_c (q : Q v H) : tC v σ H Q := q
theorem rd_op {r : R2} (q : ta σ H fun x H1 => tb σ H1 fun y H2 => r x y H2 Q) : tOp r ta tb σ H Q := q
theorem rd_un {r : V → Hp → VK → Prop} (q : ta σ H fun x H1 => r x H1 Q) : tUn r ta σ H Q := q
theorem rd_I0 {g : Int → Int → V} {a b : Int} (q : Q (g a b) H) : rI0 g (.int a) (.int b) H Q := ⟨a, b, rfl, rfl, q⟩
theorem rd_U {g : Int → V} {a : Int} (q : Q (g a) H) : rU g (.int a) H Q := ⟨a, rfl, q⟩
theorem rd_nil (q : QA [] H) : tNil σ H QA := q
theorem rd_cons (q : ta σ H fun x H1 => t σ H1 fun xs H2 => QA (x :: xs) H2) : tCons ta t σ H QA := q
theorem rd_go {sp : Sp} (q : t σ H fun vs H1 => sp vs H1 Q (fun _ _ _ => False)) : tGo sp t σ H Q := q
theorem rd_cb {r : List V → Hp → VK → Prop} (q : t σ H fun vs H1 => r vs H1 Q) : tCB r t σ H Q := q
theorem rd_dget {k : Key} {a : Addr} {kvs : List (Key × V)} {td ty : TE} (q : td σ H fun x H1 => ty σ H1 fun y H2 => ∃ a v, x = .ref a ∧ DGet H2 a y (some v) ∧ Q v H2) : tDGet td ty σ H Q := q
theorem rd_tup (q : t σ H fun xs H1 => xs.length ≤ sizeLine ∧ ∀ p, H1 p = none → Q (.ref p) (upd H1 p (.tup xs))) : tTup t σ H Q := q
theorem rd_lst (q : t σ H fun xs H1 => xs.length ≤ sizeLine ∧ ∀ p, H1 p = none → Q (.ref p) (upd H1 p (.lst xs))) : tLst t σ H Q := q
theorem rd_asg {g : TG} (q : te σ H fun x H1 => g x σ H1 D.nx) : tAsg te g D σ H := q
theorem rd_name {N : L2.St → Hp → Prop} (q : N (σ.set i (some v)) H) : gName i v σ H N := q
theorem rd_seq {t u : TS} (q : t { D with nx := u D } σ H) : tSeq t u D σ H := q
theorem rd_ret (q : te σ H D.rt) : tRet te D σ H := q
theorem rd_drop (q : te σ H fun _ H1 => D.nx σ H1) : tDrop te D σ H := q
theorem rd_par {j : Nat} (q : t σ H fun vs H1 => ∃ v w, vs = [v, w] ∧ D.nx ((σ.set i (some v)).set j (some w)) H1) : tPar i j t D σ H := q
theorem rd_if {tc : TT} {t u : TS} (q : tc σ H fun b H1 => if b = true then t D σ H1 else u D σ H1) : tIfS tc t u D σ H := q
theorem rd_next (q : D.nx σ H) : tNext D σ H := q
theorem rd_test {QT : Bool → Hp → Prop} (q : te σ H fun x H1 => ∃ k, x = .bl k ∧ QT k H1) : tTest te σ H QT := q
theorem rd_bm {r : V → List V → Hp → VK → Prop} {T : String} (q : ta σ H fun x H1 => tyV K T x H1 ∧ t σ H1 fun xs H2 => r x xs H2 Q) : tBM K T r ta t σ H Q := q
theorem rd_bm0 {r : V → List V → Hp → VK → Prop} {T : String} (q : ta σ H fun x H1 => tyV K T x H1 ∧ r x [] H1 Q) : tBM0 K T r ta σ H Q := q
theorem rd_ife {tt : TT} (q : tt σ H fun c H1 => if c = true then ta σ H1 Q else tb σ H1 Q) : tIf tt ta tb σ H Q := q
theorem rd_not {tt : TT} {QT : Bool → Hp → Prop} (q : tt σ H fun c H1 => QT (!c) H1) : tNot tt σ H QT := q
theorem rd_and {t1 t2 : TT} {QT : Bool → Hp → Prop} (q : t1 σ H fun c H1 => if c = true then t2 σ H1 QT else QT false H1) : tAnd t1 t2 σ H QT := q
theorem rd_or {t1 t2 : TT} {QT : Bool → Hp → Prop} (q : t1 σ H fun c H1 => if c = true then QT true H1 else t2 σ H1 QT) : tOr t1 t2 σ H QT := q
theorem rd_B {QT : Bool → Hp → Prop} (q : te σ H fun x H1 => ∃ c, x = .bl c ∧ QT c H1) : tB te σ H QT := q
theorem rd_andV (q : ta σ H fun x H1 => ∃ c, x = .bl c ∧ if c = true then tb σ H1 Q else Q (.bl false) H1) : tAndV ta tb σ H Q := q
theorem rd_orV (q : ta σ H fun x H1 => ∃ c, x = .bl c ∧ if c = true then Q (.bl true) H1 else tb σ H1 Q) : tOrV ta tb σ H Q := q
theorem rd_notV (q : ta σ H fun x H1 => ∃ c, x = .bl c ∧ Q (.bl (!c)) H1) : tNotV ta σ H Q := q
theorem rd_bl {b : Bool} {N : Bool → Prop} (q : N b) : ∃ k, V.bl b = .bl k ∧ N k := ⟨b, rfl, q⟩
theorem rd_ppc {tk tv : TE} {r : List (TE × TE)} {QP : List (V × V) → Hp → Prop} (q : tk σ H fun x H1 => tv σ H1 fun y H2 => tPairs r σ H2 fun ps H3 => QP ((x, y) :: ps) H3) : tPairs ((tk, tv) :: r) σ H QP := q
theorem rd_ppn {QP : List (V × V) → Hp → Prop} (q : QP [] H) : tPairs [] σ H QP := q
theorem rd_i1 {a : Int} {N : Int → Prop} (q : N a) : ∃ i, [V.int a] = [V.int i] ∧ N i := ⟨a, rfl, q⟩
theorem rd_int1 {a : Int} {N : Int → Prop} {R : Prop} (q : N a) : (∃ i, [V.int a] = [V.int i] ∧ N i) ∨ R := .inl ⟨a, rfl, q⟩
theorem rd_I {C : Int → Int → Prop} {g : Int → Int → V} {a b : Int} (c : C a b) (q : Q (g a b) H) : rI C g (.int a) (.int b) H Q := ⟨a, b, rfl, rfl, c, q⟩
theorem int_at {ns : List Int} {i : Nat} {x : V} (h : (ns.map V.int)[i]? = some x) : ∃ z, ns[i]? = some z ∧ x = .int z := by
  rw [List.getElem?_map] at h
  cases e : ns[i]? with
  | none =>
    rw [e] at h
    cases h
  | some z =>
    rw [e] at h
    exact ⟨z, rfl, (Option.some.inj h).symm⟩
theorem rd_yes {QT : Bool → Hp → Prop} (q : QT true H) : tYes σ H QT := q
theorem snoc_int (ms : List Int) (z : Int) : ms.map V.int ++ [V.int z] = (ms ++ [z]).map V.int := by rw [List.map_append] <;> rfl
theorem rd_two {N : V → V → Prop} (q : N x y) : ∃ v w, [x, y] = [v, w] ∧ N v w := ⟨x, y, rfl, q⟩
end
end Mw
local macro_rules | `(tactic| walk_at "mw1") => `(tactic| with_reducible first
  | refine Mw.rd_c ?_ | refine Mw.rd_op ?_ | refine Mw.rd_cons ?_ | refine Mw.rd_nil ?_ | refine Mw.rd_I0 ?_ | refine Mw.rd_go ?_ | refine Mw.rd_cb ?_ | refine Mw.rd_tup ?_ | refine Mw.rd_lst ?_ | refine Mw.rd_asg ?_ | refine Mw.rd_name ?_ | refine Mw.rd_seq ?_ | refine Mw.rd_ret ?_ | refine Mw.rd_drop ?_
  | refine Mw.rd_par ?_ | refine Mw.rd_if ?_ | refine Mw.rd_next ?_ | refine Mw.rd_test ?_ | refine Mw.rd_bm ?_ | refine Mw.rd_bm0 ?_ | refine Mw.rd_ife ?_ | refine Mw.rd_not ?_ | refine Mw.rd_and ?_ | refine Mw.rd_or ?_ | refine Mw.rd_B ?_ | refine Mw.rd_andV ?_ | refine Mw.rd_orV ?_ | refine Mw.rd_notV ?_ | refine Mw.rd_bl ?_ | refine Mw.rd_two ?_ | refine Mw.rd_un ?_ | refine Mw.rd_U ?_ | refine Mw.rd_i1 ?_ | (refine Mw.rd_int1 ?_; try dsimp only) | refine Mw.rd_yes ?_ | refine L2.iteT ?_ | refine L2.iteF ?_ | refine Mw.rd_ppc ?_ | refine Mw.rd_ppn ?_)
local macro_rules | `(tactic| walk_at "mwv") => `(tactic| ((with_reducible refine Mw.rd_var (v := ?v) ?h ?_); (case h => exact rfl)))
local macro_rules | `(tactic| walk_at "mwc") => `(tactic| ((with_reducible refine Mw.rd_I ?c ?_); (case c => first | exact ⟨by decide, by decide, by decide⟩ | exact ⟨by decide, by decide⟩ | exact Or.inl ⟨by decide, by decide⟩ | exact Or.inr ⟨by decide, by decide⟩ | decide | (dsimp only; decide))))
local macro_rules | `(tactic| walk_at "mw") => `(tactic| repeat (first | walk_at "mwv" | walk_at "mw1" | walk_at "mwc"))

namespace Mw
open PySem PySem.Spec PyProof.Rows L2
def topS (i : Nat) : Stmt := PySem.Challenge.pw_markedways_k03_fields_and_numbers_refuse.main.body.getD i (.Pass ⟨0, 0, 0, 0⟩)
abbrev s_is_count : Stmt := topS 10
theorem sc_is_count : FnScope ["thing"] ["thing"] (defScope s_is_count) := ⟨rfl, rfl, rfl, by decide +kernel, rfl, by decide +kernel, by decide +kernel⟩
abbrev s_is_field : Stmt := topS 11
theorem sc_is_field : FnScope ["thing", "letter"] ["thing"] (defScope s_is_field) := ⟨rfl, rfl, rfl, by decide +kernel, rfl, by decide +kernel, by decide +kernel⟩
abbrev s_is_list : Stmt := topS 12
theorem sc_is_list : FnScope ["thing"] ["thing"] (defScope s_is_list) := ⟨rfl, rfl, rfl, by decide +kernel, rfl, by decide +kernel, by decide +kernel⟩
abbrev s_ascending_fields : Stmt := topS 13
theorem sc_ascending_fields : FnScope ["fields", "field"] ["fields"] (defScope s_ascending_fields) := ⟨rfl, rfl, rfl, by decide +kernel, rfl, by decide +kernel, by decide +kernel⟩
abbrev s_ascending_numbers : Stmt := topS 14
theorem sc_ascending_numbers : FnScope ["numbers", "number"] ["numbers"] (defScope s_ascending_numbers) := ⟨rfl, rfl, rfl, by decide +kernel, rfl, by decide +kernel, by decide +kernel⟩
abbrev s_is_packet : Stmt := topS 15
theorem sc_is_packet : FnScope ["fields", "thing", "names", "number"] ["fields", "thing"] (defScope s_is_packet) := ⟨rfl, rfl, rfl, by decide +kernel, rfl, by decide +kernel, by decide +kernel⟩
abbrev s_spares : Stmt := topS 16
theorem sc_spares : FnScope ["fields", "numbers", "names", "named", "found", "number", "field"] ["fields", "numbers"] (defScope s_spares) := ⟨rfl, rfl, rfl, by decide +kernel, rfl, by decide +kernel, by decide +kernel⟩
abbrev s_samples : Stmt := topS 17
theorem sc_samples : FnScope ["fields", "numbers", "found", "field"] ["fields", "numbers"] (defScope s_samples) := ⟨rfl, rfl, rfl, by decide +kernel, rfl, by decide +kernel, by decide +kernel⟩
abbrev s_every_packet : Stmt := topS 18
theorem sc_every_packet : FnScope ["choices", "packets", "numbers", "packet", "number"] ["choices"] (defScope s_every_packet) := ⟨rfl, rfl, rfl, by decide +kernel, rfl, by decide +kernel, by decide +kernel⟩
abbrev s__law_begun : Stmt := topS 20
theorem sc__law_begun : FnScope ["script", "wide", "cell"] ["script"] (defScope s__law_begun) := ⟨rfl, rfl, rfl, by decide +kernel, rfl, by decide +kernel, by decide +kernel⟩
abbrev s__law_mixed : Stmt := topS 21
theorem sc__law_mixed : FnScope ["state", "prime", "turn", "found", "blend", "cell"] ["state"] (defScope s__law_mixed) := ⟨rfl, rfl, rfl, by decide +kernel, rfl, by decide +kernel, by decide +kernel⟩
abbrev s__law_take : Stmt := topS 22
theorem sc__law_take : FnScope ["state", "size", "found"] ["state", "size"] (defScope s__law_take) := ⟨rfl, rfl, rfl, by decide +kernel, rfl, by decide +kernel, by decide +kernel⟩
abbrev s__law_pick : Stmt := topS 23
theorem sc__law_pick : FnScope ["state", "some"] ["state", "some"] (defScope s__law_pick) := ⟨rfl, rfl, rfl, by decide +kernel, rfl, by decide +kernel, by decide +kernel⟩
abbrev s__law_shuffled : Stmt := topS 24
theorem sc__law_shuffled : FnScope ["state", "some", "left", "found"] ["state", "some"] (defScope s__law_shuffled) := ⟨rfl, rfl, rfl, by decide +kernel, rfl, by decide +kernel, by decide +kernel⟩
abbrev s__law_caught : Stmt := topS 25
theorem sc__law_caught : FnScope ["job", "found", "error"] ["job"] (defScope s__law_caught) := ⟨rfl, rfl, rfl, by decide +kernel, rfl, by decide +kernel, by decide +kernel⟩
abbrev s__law_odd : Stmt := topS 26
theorem sc__law_odd : FnScope ["state", "some"] ["state"] (defScope s__law_odd) := ⟨rfl, rfl, rfl, by decide +kernel, rfl, by decide +kernel, by decide +kernel⟩
abbrev s__law_frame : Stmt := topS 27
theorem sc__law_frame : FnScope ["state", "upto", "some", "names", "digits"] ["state", "upto"] (defScope s__law_frame) := ⟨rfl, rfl, rfl, by decide +kernel, rfl, by decide +kernel, by decide +kernel⟩
abbrev s__law_word : Stmt := topS 28
theorem sc__law_word : FnScope ["job", "error", "marks_here"] ["job"] (defScope s__law_word) := ⟨rfl, rfl, rfl, by decide +kernel, rfl, by decide +kernel, by decide +kernel⟩
abbrev s__law_near_fields : Stmt := topS 29
theorem sc__law_near_fields : FnScope ["state", "found", "change", "spot", "sort", "fresh"] ["state"] (defScope s__law_near_fields) := ⟨rfl, rfl, rfl, by decide +kernel, rfl, by decide +kernel, by decide +kernel⟩
abbrev s__law_are_fields : Stmt := topS 30
theorem sc__law_are_fields : FnScope ["thing_here", "label", "sign"] ["thing_here"] (defScope s__law_are_fields) := ⟨rfl, rfl, rfl, by decide +kernel, rfl, by decide +kernel, by decide +kernel⟩
abbrev s__law_near_numbers : Stmt := topS 31
theorem sc__law_near_numbers : FnScope ["state", "found", "change", "spot", "sort"] ["state"] (defScope s__law_near_numbers) := ⟨rfl, rfl, rfl, by decide +kernel, rfl, by decide +kernel, by decide +kernel⟩
abbrev s__law_are_numbers : Stmt := topS 32
theorem sc__law_are_numbers : FnScope ["thing_here", "number"] ["thing_here"] (defScope s__law_are_numbers) := ⟨rfl, rfl, rfl, by decide +kernel, rfl, by decide +kernel, by decide +kernel⟩
abbrev s_law : Stmt := topS 33
theorem sc_law : FnScope ["script", "state", "turn", "first", "second", "seen", "told", "names", "digits"] ["script"] (defScope s_law) := ⟨rfl, rfl, rfl, by decide +kernel, rfl, by decide +kernel, by decide +kernel⟩
/-- the built-ins that the text leaves alone -/
structure Blt (mg : Str → Option Value) : Prop where
  abs : mg "abs" = none
  int : mg "int" = none
  len : mg "len" = none
  list : mg "list" = none
  tuple : mg "tuple" = none
  range : mg "range" = none
  sorted : mg "sorted" = none
  isinstance : mg "isinstance" = none
  str : mg "str" = none
  bool : mg "bool" = none
  all : mg "all" = none
  set : mg "set" = none
  repr : mg "repr" = none
  min : mg "min" = none
  zip : mg "zip" = none
section
variable {P : Program} {w : World} {K : PySem.W.Frag} {mg : Str → Option Value} {base : Heap}
def spBegun (K : PySem.W.Frag) : Sp := fun vs H Q _ => ∃ (a : Addr) (ns : List Int), vs = [.ref a] ∧ SqL K H a (ns.map V.int) ∧ ns.length ≤ 63 ∧
  ∀ (W : Wd) (H' : Hp), Same H H' → StOk W 0 H' → H W.d = none → H W.w = none → Q (.ref W.d) H'
theorem ok_begun {f : Addr} {fd : FuncData} (F : Fun K "_law_begun" "_law_begun" s__law_begun f fd) (T : Blt mg) : FnG P w K mg base 1 f fd ["script"] (spBegun K) := by
  refine fnG F sc__law_begun (fun vs H Q E h => ?_) (fun cdv A outer s H vs Q E hr h => ?_)
  · obtain ⟨a, ns, rfl, _⟩ := h
    rfl
  · obtain ⟨a, ns, rfl, hS, hl, q⟩ := h
    have hu := hu_of hr.r
    refine ⟨_, pss_cons (ps_setLc (i := 1) (own := [("cell", 2)]) (g := gName 2) rfl sc__law_begun.nd rfl rfl (sw_true rfl rfl rfl (by decide +kernel)) (pi_list (pv 0)) (blkOk_by (N := ["script", "wide", "cell"]) (sc := defScope s__law_begun) (by decide +kernel)) (fun _ _ _ _ _ => (pg_name (i := 2) sc__law_begun.nd rfl (.inl rfl))) (fun _ _ _ _ _ => pts_one (pt_cmpR op_ge (pe_callB call_abs (by rfl) T.abs (by decide +kernel) (pa_cons (pv 2) pa_nil)) (pe_op op_pow pe_int pe_int) (nomark _))) (fun _ _ _ _ _ => (pe_op op_sub (pe_callB call_abs (by rfl) T.abs (by decide +kernel) (pa_cons (pv 2) pa_nil)) (pe_op op_pow pe_int pe_int))))
        (pss_one (ps_ret (pe_disp (pps_cons pe_str (pv 1) (pps_cons pe_str (pe_lc (own := [("cell", 2)]) (g := gName 2) (tt := tYes) rfl sc__law_begun.nd (pi_list (pv 0)) (blkOk_by (N := ["script", "wide", "cell"]) (sc := defScope s__law_begun) (by decide +kernel)) (fun _ _ _ _ _ => (pg_name (i := 2) sc__law_begun.nd rfl (.inl rfl))) (fun _ _ _ _ _ => pts_nil) (fun _ _ _ _ _ => (pe_op op_mod (pe_callTy call_int1 (by rfl) T.int (by decide +kernel) (pa_cons (pe_callB call_abs (by rfl) T.abs (by decide +kernel) (pa_cons (pv 2) pa_nil)) pa_nil)) pe_int))) (pps_cons pe_str pe_int (pps_cons pe_str pe_int pps_nil)))) (by rfl) (by rfl) (fun z => by cases z) (by decide)))), ?_⟩
    walk_at "mw"
    refine ⟨.ref a, rfl, a, rfl, ⟨_, hS⟩, fun D nD => ?_⟩
    refine lc_list (K := K) (a := a) (xs := ns.map V.int) (fun i H' => Same H H' ∧ ∃ ms : List Int, H' D = some (.lst (ms.map V.int)) ∧ ms.length ≤ i) ⟨same_upd nD, [], upd_same, Nat.le_refl _⟩ (fun i H' _ p => p.1.seq hS) ?_ ?_
    · rintro i x H1 hi ⟨e1, ms, hD, hm⟩
      obtain ⟨z, hz, rfl⟩ := int_at hi
      have hil : i < ns.length := (List.getElem?_eq_some_iff.mp hz).1
      refine ⟨rfl, ?_⟩
      walk_at "mw"
      refine ite2 (fun _ => ?_) (fun _ => ⟨e1, ms, hD, by omega⟩)
      walk_at "mw"
      refine ⟨_, hD, (by rw [List.length_map]; exact small1000 (by omega)), ?_⟩
      rw [snoc_int]
      refine ⟨?_, _, upd_same, ?_⟩
      · exact fun b o e => by
          rw [upd_ne (ne_of_none e nD)]
          exact e1 _ _ e
      · rw [List.length_append]
        show ms.length + 1 ≤ i + 1
        omega
    · rintro H1 ⟨e1, ms, hD, hm⟩
      walk_at "mw"
      intro p np
      walk_at "mw"
      have e2 : Same H (upd H1 p (.dK [])) := e1.trans (same_upd np)
      have npD : D ≠ p := ne_of_none hD np
      refine ⟨.ref a, rfl, a, rfl, ⟨_, e2.seq hS⟩, fun C nC => ?_⟩
      have nCD : D ≠ C := ne_of_none (show upd H1 p (.dK []) D = some _ by rw [upd_ne npD]; exact hD) nC
      have nCp : p ≠ C := ne_of_none (show upd H1 p (.dK []) p = some _ from upd_same) nC
      refine lc_list (K := K) (a := a) (xs := ns.map V.int) (fun i H' => Same H H' ∧ H' D = some (.lst (ms.map V.int)) ∧ H' p = some (.dK []) ∧ ∃ cs : List Int, H' C = some (.lst (cs.map V.int)) ∧ cs.length ≤ i ∧ ∀ x ∈ cs, 0 ≤ x ∧ x < 2147483629)
        ⟨e2.trans (same_upd nC), by rw [upd_ne nCD, upd_ne npD]; exact hD, by rw [upd_ne nCp, upd_same], [], upd_same, Nat.le_refl _, fun x hx => nomatch hx⟩ (fun i H' _ q => q.1.seq hS) ?_ ?_
      · rintro i x H2 hi ⟨e3, gD, gp, cs, gC, hc, hr⟩
        obtain ⟨z, hz, rfl⟩ := int_at hi
        have hil : i < ns.length := (List.getElem?_eq_some_iff.mp hz).1
        refine ⟨rfl, ?_⟩

        walk_at "mw"
        have m0 := Int.emod_nonneg (if z < 0 then -z else z) (show (2147483629 : Int) ≠ 0 by decide)
        have m1 := Int.emod_lt_of_pos (if z < 0 then -z else z) (show (0 : Int) < 2147483629 by decide)
        refine ⟨_, gC, (by rw [List.length_map]; exact small1000 (by omega)), ?_⟩
        rw [snoc_int]
        refine ⟨?_, ?_, ?_, _, upd_same, ?_, ?_⟩
        · exact fun b o e => by
            rw [upd_ne (ne_of_none (e2 b o e) nC)]
            exact e3 _ _ e
        · rw [upd_ne nCD]
          exact gD
        · rw [upd_ne nCp]
          exact gp
        · rw [List.length_append]
          show cs.length + 1 ≤ i + 1
          omega
        · intro x hx
          rcases List.mem_append.mp hx with hx | hx
          · exact hr x hx
          · cases List.mem_singleton.mp hx
            exact ⟨m0, m1⟩
      · rintro H2 ⟨e3, gD, gp, cs, gC, hc, hr⟩
        walk_at "mw"
        refine ⟨gp, kvs0 ⟨p, D, C⟩ 0 0, rfl, (by show 4 ≤ 15; decide), ?_⟩
        have npH : H p = none := e1.free np
        refine q ⟨p, D, C⟩ _ (fun b o e => ?_) ⟨0, 0, ms, cs, ⟨?_, ?_, ?_, nCD.symm, hr, Int.le_refl 0⟩, Int.le_refl 0⟩ npH nD
        · rw [upd_ne (ne_of_none e npH)]
          exact e3 _ _ e
        · exact upd_same
        · show upd H2 p _ D = _
          rw [upd_ne npD]
          exact gD
        · show upd H2 p _ C = _
          rw [upd_ne nCp.symm]
          exact gC
end
end Mw
namespace Mw
open PySem PySem.Spec PyProof.Rows L2
section
variable {P : Program} {w : World} {K : PySem.W.Frag} {mg : Str → Option Value} {base : Heap}
def spMixed : Sp := fun vs H Q _ => ∃ (W : Wd) (r t : Int) (ns cs : List Int), vs = [.ref W.d] ∧ StAt W r t ns cs H ∧ t ≤ 1000000000000 ∧
  ∀ (k : Int) (H' : Hp), StAt W r (t + 1) ns cs H' → Same (mk W H) (mk W H') → Q (.int k) H'
theorem primes_at {i : Nat} {p : Int} (h : ([2147483629, 2147483587, 2147483579, 2147483563] : List Int)[i]? = some p) : 0 < p ∧ p < 2147483648 := by
  have hm := List.mem_of_getElem? h
  simp only [List.mem_cons, List.mem_nil_iff, or_false] at hm
  omega
theorem small_pow {b : Int} (h0 : 0 ≤ b) (h1 : b < 9223372036854775808) : CPow b 5 := ⟨by decide, by decide, by
  have : b.natAbs < 9223372036854775808 := by omega
  exact Nat.lt_trans this (by decide)⟩
theorem ok_mixed {f : Addr} {fd : FuncData} (F : Fun K "_law_mixed" "_law_mixed" s__law_mixed f fd) (T : Blt mg) : FnG P w K mg base 1 f fd ["state"] spMixed := by
  refine fnG F sc__law_mixed (fun vs H Q E h => ?_) (fun cdv A outer s H vs Q E hr h => ?_)
  · obtain ⟨W, r, t, ns, cs, rfl, _⟩ := h
    rfl
  · obtain ⟨W, r, t, ns, cs, rfl, S, ht, q⟩ := h
    have hu := hu_of hr.r
    refine ⟨_, pss_cons (ps_par (i := 2) (j := 3) rfl sc__law_mixed.nd rfl rfl (by decide) rfl rfl (pa_cons (pe_op op_add (pe_dget hu (pv 0) pe_str (fun _ _ => rfl)) pe_int) (pa_cons pe_int pa_nil)) (by rfl))
        (pss_cons (ps_dput hu (pv 0) pe_str (pv 2) rfl)
        (pss_cons (ps_for PassesOwn.never rfl (pi_list (pe_lst (pa_cons pe_int (pa_cons pe_int (pa_cons pe_int (pa_cons pe_int pa_nil)))))) (pg_name (i := 1) sc__law_mixed.nd rfl (.inl rfl))
        (pss_cons (ps_set (i := 4) sc__law_mixed.nd rfl (.inl rfl) (pe_op op_add (pe_op op_mul pe_int (pv 2)) (pe_op op_fdiv (pv 1) pe_int)))
          (pss_cons (ps_for PassesOwn.never rfl (pi_list (pe_dget hu (pv 0) pe_str (fun _ _ => rfl))) (pg_name (i := 5) sc__law_mixed.nd rfl (.inl rfl))
          (pss_one (ps_set (i := 4) sc__law_mixed.nd rfl (.inl rfl) (pe_op op_mod (pe_callTy call_int1 (by rfl) T.int (by decide +kernel) (pa_cons (pe_op op_add (pe_op op_add (pe_op op_mul (pv 4) pe_int) (pv 5)) (pv 2)) pa_nil)) (pv 1)))))
          (pss_one (ps_set (i := 3) sc__law_mixed.nd rfl (.inl rfl) (pe_op op_add (pe_op op_mul (pv 3) pe_int) (pe_op op_mod (pe_callTy call_int1 (by rfl) T.int (by decide +kernel) (pa_cons (pe_op op_pow (pv 4) pe_int) pa_nil)) (pv 1))))))))
        (pss_one (ps_ret (pv 3))))), ?_⟩
    have t0 := S.t0
    walk_at "mw"
    -- state["turn"] + 1, 0
    refine ⟨.ref W.d, rfl, W.d, .int t, rfl, ?_, ?_⟩
    · rw [← kv_turn W r t]
      exact DGet.k (k := Sum.inr "turn") S.d
    walk_at "mw"
    -- state["turn"] = turn
    refine ⟨.int (t + 1), rfl, .ref W.d, rfl, W.d, _, rfl, DPut.k (k := Sum.inr "turn") S.d (by show 4 < sizeLine; decide), ?_⟩
    rw [pk_turn]
    have S1 : StAt W r (t + 1) ns cs (upd H W.d (.dK (kvs0 W r (t + 1)))) := ⟨upd_same, by rw [upd_ne S.nwd]; exact S.w, by rw [upd_ne S.ncd]; exact S.c, S.ne, S.cs, by omega⟩
    have e1 : Same (mk W H) (mk W (upd H W.d (.dK (kvs0 W r (t + 1))))) := by
      rw [mk_upd_d]
      exact Same.refl _
    generalize upd H W.d (.dK (kvs0 W r (t + 1))) = H1 at S1 e1
    walk_at "mw"
    -- for prime in [..]
    refine ⟨by show 4 ≤ sizeLine; decide, fun p np => ?_⟩
    have S2 : StAt W r (t + 1) ns cs (upd H1 p (.lst (([2147483629, 2147483587, 2147483579, 2147483563] : List Int).map V.int))) := by
      have e := same_upd (o := .lst (([2147483629, 2147483587, 2147483579, 2147483563] : List Int).map V.int)) np
      exact ⟨e _ _ S1.d, e _ _ S1.w, e _ _ S1.c, S1.ne, S1.cs, S1.t0⟩
    have e2 : Same (mk W H) (mk W (upd H1 p (.lst (([2147483629, 2147483587, 2147483579, 2147483563] : List Int).map V.int)))) := e1.trans (mk_same (same_upd np))
    have hp : SqL K (upd H1 p (.lst (([2147483629, 2147483587, 2147483579, 2147483563] : List Int).map V.int))) p (([2147483629, 2147483587, 2147483579, 2147483563] : List Int).map V.int) := .inl (.inl upd_same)
    refine ⟨p, rfl, ⟨_, hp⟩, ?_⟩
    show ∃ W1 : Nat → Nat → L2.St → Hp → Prop, (∃ m, W1 0 m _ (upd H1 p (.lst (([2147483629, 2147483587, 2147483579, 2147483563] : List Int).map V.int)))) ∧ _
    generalize upd H1 p (.lst (([2147483629, 2147483587, 2147483579, 2147483563] : List Int).map V.int)) = H2 at S2 e2 hp
    refine for_list (K := K) (a := p) (xs := ([2147483629, 2147483587, 2147483579, 2147483563] : List Int).map V.int)
      (fun i σ H' => H' = H2 ∧ ∃ (f : Int) (y1 y4 y5 : Option V), σ = [some (.ref W.d), y1, some (.int (t + 1)), some (.int f), y4, y5]) ⟨rfl, _, _, _, _, rfl⟩ (fun i σ H' _ z => by rw [z.1]; exact hp) ?_ ?_
    · rintro i x σ H' hi ⟨rfl, f, y1, y4, y5, rfl⟩
      obtain ⟨pr, hpr, rfl⟩ := int_at hi
      obtain ⟨p0, p1⟩ := primes_at hpr
      walk_at "mw"
      -- for cell in state["cells"]
      refine ⟨.ref W.d, rfl, W.d, .ref W.c, rfl, ?_, W.c, rfl, ⟨_, .inl (.inl S2.c)⟩, ?_⟩
      · rw [← kv_cells W r (t + 1)]
        exact DGet.k (k := Sum.inr "cells") S2.d
      refine for_list (K := K) (a := W.c) (xs := cs.map V.int)
        (fun i σ H1 => H1 = H' ∧ ∃ (b : Int) (y5 : Option V), 0 ≤ b ∧ b < 9223372036854775808 ∧ σ = [some (.ref W.d), some (.int pr), some (.int (t + 1)), some (.int f), some (.int b), y5]) ⟨rfl, _, _, ?_, ?_, rfl⟩ (fun i σ H1 _ z => by rw [z.1]; exact .inl (.inl S2.c)) ?_ ?_
      · omega
      · omega
      · rintro j y σ H1 hj ⟨rfl, b, y5, b0, b1, rfl⟩
        obtain ⟨c, hc, rfl⟩ := int_at hj
        walk_at "mw"
        refine rd_I p0 ?_
        walk_at "mw"
        have m0 := Int.emod_nonneg (b * 48271 + c + (t + 1)) (show pr ≠ 0 by omega)
        have m1 := Int.emod_lt_of_pos (b * 48271 + c + (t + 1)) p0
        exact ⟨rfl, _, _, m0, by omega, rfl⟩
      · rintro σ H1 ⟨rfl, b, y5, b0, b1, rfl⟩
        walk_at "mw"
        refine rd_I (small_pow b0 b1) ?_
        walk_at "mw"
        refine rd_I p0 ?_
        walk_at "mw"
        exact ⟨rfl, _, _, _, _, rfl⟩
    · rintro σ H' ⟨rfl, f, y1, y4, y5, rfl⟩
      walk_at "mw"
      exact q _ _ S2 e2
end
end Mw
/-! ### data -/
namespace Mw
open PySem PySem.Spec PyProof.Rows L2
section
variable {K : PySem.W.Frag} {H H' : Hp}
mutual
theorem dp_same (e : Same H H') : ∀ (d : PyData) (v : V), Dp K H v d → Dp K H' v d
  | .none, _, h => by
    cases h
    exact .non
  | .bool b, _, h => by
    cases h
    exact .bl b
  | .int i, _, h => by
    cases h
    exact .int i
  | .str x, _, h => by
    cases h
    exact .str x
  | .list ds, _, h => by
    cases h with
    | lst hs ha => exact .lst (e.seq hs) (dps_same e ds _ ha)
  | .tuple ds, _, h => by
    cases h with
    | tup hs ha => exact .tup (seqT e hs) (dps_same e ds _ ha)
  | .dict _, _, h => by cases h
theorem dps_same (e : Same H H') : ∀ (ds : List PyData) (vs : List V), DpAll K H vs ds → DpAll K H' vs ds
  | [], _, h => by
    cases h
    exact .nil
  | d :: ds, _, h => by
    cases h with
    | cons h1 h2 => exact .cons (dp_same e d _ h1) (dps_same e ds _ h2)
end
/-- data that == can be asked of -/
def Good (K : PySem.W.Frag) (H : Hp) (v : V) : Prop := ∃ d, Dp K H v d ∧ d.canLay0 = true ∧ d.depth ≤ 60
theorem Good.same {v : V} (g : Good K H v) (e : Same H H') : Good K H' v := by
  obtain ⟨d, h1, h2, h3⟩ := g
  exact ⟨d, dp_same e d v h1, h2, h3⟩
theorem good_all : ∀ {xs : List V}, (∀ x ∈ xs, Good K H x) → ∃ ds, DpAll K H xs ds ∧ PyData.canLayAll0 ds = true ∧ PyData.depthAll ds ≤ 60 ∧ ds.length = xs.length
  | [], _ => ⟨[], .nil, by simp [PyData.canLayAll0], by simp [PyData.depthAll], rfl⟩
  | x :: xs, h => by
    obtain ⟨d, h1, h2, h3⟩ := h x (List.mem_cons_self ..)
    obtain ⟨ds, k1, k2, k3, k4⟩ := good_all (xs := xs) fun y hy => h y (List.mem_cons_of_mem _ hy)
    refine ⟨d :: ds, .cons h1 k1, by simp [PyData.canLayAll0, h2, k2], ?_, by rw [List.length_cons, List.length_cons, k4]⟩
    simp only [PyData.depthAll]
    omega
theorem eqv_empty (ds : List PyData) : PyData.eqv (.list ds) (.list []) = ds.isEmpty := by
  cases ds with
  | nil => simp [PyData.eqv, PyData.eqvAll]
  | cons d ds => simp [PyData.eqv, PyData.eqvAll]
theorem shaped_nil : SeqAt.shaped (.list []) = true := by
  simp [SeqAt.shaped, PyData.canLay0, PyData.canLayAll0, PyData.depth, PyData.depthAll]
/-- xs != [], == [] where xs holds data -/
theorem ne_nil {Q : VK} {a b : Addr} {xs : List V} (ha : SqL K H a xs) (hb : SqL K H b []) (g : ∀ x ∈ xs, Good K H x) (q : Q (.bl (!xs.isEmpty)) H) : rNeD K (.ref a) (.ref b) H Q := by
  obtain ⟨ds, h1, h2, h3, h4⟩ := good_all g
  refine ⟨.list ds, .list [], .lst ha h1, .lst hb .nil, ?_, shaped_nil, ?_⟩
  · show ((PyData.list ds).canLay0 && decide ((PyData.list ds).depth ≤ 64)) = true
    rw [Bool.and_eq_true]
    refine ⟨by simp only [PyData.canLay0]; exact h2, decide_eq_true ?_⟩
    simp only [PyData.depth]
    omega
  · rw [eqv_empty, show ds.isEmpty = xs.isEmpty by cases ds <;> cases xs <;> first | rfl | (simp at h4)]
    exact q
theorem eq_nil {Q : VK} {a b : Addr} {xs : List V} (ha : SqL K H a xs) (hb : SqL K H b []) (g : ∀ x ∈ xs, Good K H x) (q : Q (.bl xs.isEmpty) H) : rEqD K (.ref a) (.ref b) H Q := by
  obtain ⟨ds, h1, h2, h3, h4⟩ := good_all g
  refine ⟨.list ds, .list [], .lst ha h1, .lst hb .nil, ?_, shaped_nil, ?_⟩
  · show ((PyData.list ds).canLay0 && decide ((PyData.list ds).depth ≤ 64)) = true
    rw [Bool.and_eq_true]
    refine ⟨by simp only [PyData.canLay0]; exact h2, decide_eq_true ?_⟩
    simp only [PyData.depth]
    omega
  · rw [eqv_empty, show ds.isEmpty = xs.isEmpty by cases ds <;> cases xs <;> first | rfl | (simp at h4)]
    exact q
theorem good_int (i : Int) : Good K H (.int i) := ⟨_, .int i, rfl, by simp [PyData.depth]⟩
theorem good_str {x : Str} (h : PyData.strOk x = true) : Good K H (.str x) := ⟨_, .str x, by simpa [PyData.canLay0] using h, by simp [PyData.depth]⟩
end
theorem hu64 {A : Around} {k : Nat} (hr : Room k A) : A.units + 64 < cLine := by
  have := hr.un
  omega
end Mw
/-! ### data with dicts, and how it is shown -/
namespace Mw
open PySem PySem.Spec PyProof.Rows L2
mutual
/-- data of any depth, dicts by ints and texts too -/
inductive Dd (K : PySem.W.Frag) (H : Hp) : V → PyData → Prop
  | non : Dd K H .non .none
  | bl (b : Bool) : Dd K H (.bl b) (.bool b)
  | int (i : Int) : Dd K H (.int i) (.int i)
  | str (x : Str) : Dd K H (.str x) (.str x)
  | lst {a : Addr} {xs : List V} {ds : List PyData} : H a = some (.lst xs) → DdAll K H xs ds → Dd K H (.ref a) (.list ds)
  | tup {a : Addr} {xs : List V} {ds : List PyData} : SqT K H a xs → DdAll K H xs ds → Dd K H (.ref a) (.tuple ds)
  | dic {a : Addr} {kvs : List (Key × V)} {ps : List (PyData × PyData)} : H a = some (.dK kvs) → DdAll K H (kvs.map fun p => kV p.1) (ps.map (·.1)) → DdAll K H (kvs.map (·.2)) (ps.map (·.2)) → Dd K H (.ref a) (.dict ps)
inductive DdAll (K : PySem.W.Frag) (H : Hp) : List V → List PyData → Prop
  | nil : DdAll K H [] []
  | cons {v : V} {vs : List V} {d : PyData} {ds : List PyData} : Dd K H v d → DdAll K H vs ds → DdAll K H (v :: vs) (d :: ds)
end
section
variable {K : PySem.W.Frag} {H H' : Hp}
mutual
theorem Dd.same (e : Same H H') : ∀ {v : V} {d : PyData}, Dd K H v d → Dd K H' v d
  | _, _, .non => .non
  | _, _, .bl b => .bl b
  | _, _, .int i => .int i
  | _, _, .str x => .str x
  | _, _, .lst h a => .lst (e _ _ h) (DdAll.same e a)
  | _, _, .tup h a => .tup (seqT e h) (DdAll.same e a)
  | _, _, .dic h a b => .dic (e _ _ h) (DdAll.same e a) (DdAll.same e b)
theorem DdAll.same (e : Same H H') : ∀ {vs : List V} {ds : List PyData}, DdAll K H vs ds → DdAll K H' vs ds
  | _, _, .nil => .nil
  | _, _, .cons h a => .cons (Dd.same e h) (DdAll.same e a)
end
theorem DdAll.len : ∀ {vs : List V} {ds : List PyData}, DdAll K H vs ds → vs.length = ds.length
  | _, _, .nil => rfl
  | _, _, .cons _ a => congrArg Nat.succ (DdAll.len a)
theorem DdAll.at : ∀ {vs : List V} {ds : List PyData} {i : Nat} {v : V}, DdAll K H vs ds → vs[i]? = some v → ∃ d, ds[i]? = some d ∧ Dd K H v d
  | _, _, _, _, .nil, h => by simp at h
  | _, _, 0, _, .cons a _, h => by
    cases h
    exact ⟨_, rfl, a⟩
  | _, _, i + 1, _, .cons _ t, h => DdAll.at (i := i) t h
theorem DdAll.app : ∀ {vs ws : List V} {ds es : List PyData}, DdAll K H vs ds → DdAll K H ws es → DdAll K H (vs ++ ws) (ds ++ es)
  | _, _, _, _, .nil, b => b
  | _, _, _, _, .cons h a, b => .cons h (DdAll.app a b)
theorem DdAll.drop : ∀ {vs : List V} {ds : List PyData} (k : Nat), DdAll K H vs ds → DdAll K H (vs.drop k) (ds.drop k)
  | _, _, 0, a => a
  | _, _, _ + 1, .nil => .nil
  | _, _, k + 1, .cons _ a => DdAll.drop k a
theorem DdAll.take : ∀ {vs : List V} {ds : List PyData} (k : Nat), DdAll K H vs ds → DdAll K H (vs.take k) (ds.take k)
  | _, _, 0, _ => .nil
  | _, _, _ + 1, .nil => .nil
  | _, _, k + 1, .cons h a => .cons h (DdAll.take k a)
/-- flat data is its value -/
def flatD : PyData → Bool
  | .none => true
  | .bool _ => true
  | .int _ => true
  | .str _ => true
  | _ => false
def valD : PyData → V
  | .none => .non
  | .bool b => .bl b
  | .int i => .int i
  | .str x => .str x
  | _ => .non
theorem Dd.flat {v : V} {d : PyData} (h : Dd K H v d) (f : flatD d = true) : v = valD d := by
  cases h <;> first | rfl | cases f
theorem DdAll.flat : ∀ {vs : List V} {ds : List PyData}, DdAll K H vs ds → ds.all flatD = true → vs = ds.map valD
  | _, _, .nil, _ => rfl
  | _, _, .cons h a, f => by
    rw [List.all_cons, Bool.and_eq_true] at f
    rw [List.map_cons, ← h.flat f.1, ← a.flat f.2]
theorem flat_val : ∀ {d : PyData}, flatD d = true → flatV (valD d) = true
  | .none, _ => rfl
  | .bool _, _ => rfl
  | .int _, _ => rfl
  | .str _, _ => rfl
theorem flats_val : ∀ {ds : List PyData}, ds.all flatD = true → (ds.map valD).all flatV = true
  | [], _ => rfl
  | d :: ds, f => by
    rw [List.all_cons, Bool.and_eq_true] at f
    rw [List.map_cons, List.all_cons, flat_val f.1, flats_val f.2] <;> rfl
theorem eqV_val {d e : PyData} (h : flatD d = true) (g : flatD e = true) : eqV (valD d) (valD e) = PyData.eqv d e := by
  cases d <;> cases e <;> first | (exact Bool.noConfusion h) | (exact Bool.noConfusion g) | (simp only [valD, eqV, PyData.eqv])
theorem inV_val {d : PyData} (g : flatD d = true) : ∀ {ds : List PyData}, ds.all flatD = true → inV (valD d) (ds.map valD) = ds.any fun e => PyData.eqv e d
  | [], _ => rfl
  | e :: ds, f => by
    rw [List.all_cons, Bool.and_eq_true] at f
    have ih := inV_val g f.2
    unfold inV at ih ⊢
    rw [List.map_cons, List.any_cons, List.any_cons, eqV_val f.1 g, ih]
/-- without dicts: what == reads -/
theorem canLayAll_cons {d : PyData} {ds : List PyData} (h : PyData.canLayAll0 (d :: ds) = true) : d.canLay0 = true ∧ PyData.canLayAll0 ds = true := by
  simpa [PyData.canLayAll0] using h
mutual
theorem Dd.dp : ∀ {v : V} {d : PyData}, Dd K H v d → d.canLay0 = true → Dp K H v d
  | _, _, .non, _ => .non
  | _, _, .bl b, _ => .bl b
  | _, _, .int i, _ => .int i
  | _, _, .str x, _ => .str x
  | _, _, .lst h a, c => .lst (.inl (.inl h)) (DdAll.dp a (by simpa [PyData.canLay0] using c))
  | _, _, .tup h a, c => .tup h (DdAll.dp a (by simpa [PyData.canLay0] using c))
  | _, _, .dic _ _ _, c => by simp [PyData.canLay0] at c
theorem DdAll.dp : ∀ {vs : List V} {ds : List PyData}, DdAll K H vs ds → PyData.canLayAll0 ds = true → DpAll K H vs ds
  | _, _, .nil, _ => .nil
  | _, _, .cons h a, c => .cons (Dd.dp h (canLayAll_cons c).1) (DdAll.dp a (canLayAll_cons c).2)
end
end
section
variable {X : Cx} {pins : List (Addr × Obj)} {σ : L2.St} {H : Hp} {s : Shared}
theorem keyIs_rel {P : Program} {w : World} {k : Key} {u : Value} (h : (mixKind P w).is k u = true) : RelV (kV k) u := by
  have h' : keyIs k u = true := h
  rcases keyIs_shape h' with ⟨i, t, rfl, rfl⟩ | ⟨x, t, rfl, rfl⟩
  · exact ⟨t, rfl⟩
  · exact ⟨t, rfl⟩
theorem pairs_rel {P : Program} {w : World} : ∀ {es : List DictEntry} {vs : List (Key × Value)} {kvs : List (Key × V)}, Pairs (mixKind P w) es vs → KV kvs vs →
    Vals (kvs.map fun p => kV p.1) (es.map (·.key)) ∧ Vals (kvs.map (·.2)) (es.map (·.val))
  | _, _, _, .nil, .nil => ⟨.nil, .nil⟩
  | _, _, _, .cons h1 h2 t, .cons ⟨e, r⟩ q => by
    obtain ⟨a, b⟩ := pairs_rel t q
    refine ⟨.cons ?_ a, .cons ?_ b⟩
    · show RelV (kV _) _
      rw [e]
      exact keyIs_rel h1
    · show RelV _ (DictEntry.val _)
      rw [h2]
      exact r
theorem sys_dict (I : Inv X pins σ H s) (hs : ∃ m, X.base.Ns sysModules m) : ∃ ob es ep, s.heap.get? sysModules = some ob ∧ ob.data = .dict es ep := by
  obtain ⟨m, ob, es, ep, q, d, _⟩ := hs
  exact ⟨ob, es, ep, I.bk _ _ q, d⟩
theorem not_sys (I : Inv X pins σ H s) (hs : ∃ m, X.base.Ns sysModules m) {a : Addr} {o : Obj} {vs : Array Value} {n : Nat} (h : s.heap.get? a = some o) (hd : o.data = .seq vs n) : a ≠ sysModules := by
  rintro rfl
  obtain ⟨ob, es, ep, q, d⟩ := sys_dict I hs
  rw [h] at q
  cases q
  rw [hd] at d
  cases d
mutual
theorem Dd.reads (I : Inv X pins σ H s) (hs : ∃ m, X.base.Ns sysModules m) : ∀ {v : V} {d : PyData} {u : Value}, Dd X.K H v d → RelV v u → ∃ as, Reads s.heap u d as ∧ sysModules ∉ as
  | _, _, _, .non, r => by
    cases r
    exact ⟨_, Reads.none, by simp⟩
  | _, _, _, .bl b, r => by
    cases r
    exact ⟨_, Reads.bool b, by simp⟩
  | _, _, _, .int i, r => by
    obtain ⟨t, rfl⟩ := r
    exact ⟨_, Reads.int i t, by simp⟩
  | _, _, _, .str x, r => by
    obtain ⟨t, rfl⟩ := r
    exact ⟨_, Reads.str x t, by simp⟩
  | _, _, _, .lst hl ha, r => by
    cases r
    obtain ⟨its, rv, ⟨o, n, ho, hc, _, hd⟩, _⟩ := I.list (.inl (.inl hl))
    obtain ⟨as, hr, no⟩ := DdAll.reads I hs ha rv
    refine ⟨_, Reads.list ho hc hd hr, ?_⟩
    rintro (_ | ⟨_, z⟩)
    · exact not_sys I hs ho hd rfl
    · exact no z
  | _, _, _, .tup hl ha, r => by
    cases r
    obtain ⟨its, rv, ⟨o, ho, hc, n, hd⟩, _⟩ := I.tuple hl
    obtain ⟨as, hr, no⟩ := DdAll.reads I hs ha rv
    exact ⟨_, Reads.tuple ho hc hd hr, no⟩
  | _, _, _, .dic hl h1 h2, r => by
    cases r
    obtain ⟨_, ns, vs, kv, o, es, ep, ho, hx, hd, _, hp, _⟩ := dk_of I.hok hl
    obtain ⟨r1, r2⟩ := pairs_rel hp kv
    obtain ⟨as, ha, n1⟩ := DdAll.reads I hs h1 r1
    obtain ⟨bs, hb, n2⟩ := DdAll.reads I hs h2 r2
    refine ⟨_, Reads.dict ho hx.1 hd ha hb, ?_⟩
    intro z
    rcases List.mem_append.mp z with z | z
    · rcases List.mem_cons.mp z with z | z
      · rw [← z] at ns
        cases ns
      · exact n1 z
    · exact n2 z
theorem DdAll.reads (I : Inv X pins σ H s) (hs : ∃ m, X.base.Ns sysModules m) : ∀ {vs : List V} {ds : List PyData} {us : List Value}, DdAll X.K H vs ds → Vals vs us → ∃ as, ReadsAll s.heap us ds as ∧ sysModules ∉ as
  | _, _, _, .nil, r => by
    cases r
    exact ⟨_, ReadsAll.nil, by simp⟩
  | _, _, _, .cons h t, r => by
    cases r with
    | cons r1 r2 =>
      obtain ⟨as, q1, n1⟩ := Dd.reads I hs h r1
      obtain ⟨bs, q2, n2⟩ := DdAll.reads I hs t r2
      refine ⟨_, ReadsAll.cons q1 q2, fun z => ?_⟩
      rcases List.mem_append.mp z with z | z
      · exact n1 z
      · exact n2 z
end
end
/-- what may be shown -/
def Fit (d : PyData) : Prop := d.showable = true ∧ d.depth ≤ 60 ∧ d.shown.length ≤ sizeLine
theorem call_repr {X : Cx} {k : Nat} (hr : Rm k X.A) (hs : ∃ m, X.base.Ns sysModules m) : CallR X (.builtin "repr") (fun xs H Q => ∃ v d, xs = [v] ∧ Dd X.K H v d ∧ Fit d ∧ Q (.str d.shown) H) := by
  intro pins s σ H xs us Q I r h
  obtain ⟨v, d, rfl, hd, ⟨f1, f2, f3⟩, q⟩ := h
  cases r with
  | cons rv rn =>
    cases rn
    have out : ∀ tk, EP X pins σ Q (.str d.shown tk) { s with toks := tk + 1 } := fun tk => ⟨.str d.shown, H, I.tok _, ⟨_, rfl⟩, q⟩
    have hu := hr.r.un
    cases hd with
    | non =>
      cases rv
      exact PySem.P.repr_of_none (out _)
    | bl b =>
      cases rv
      have z := out s.toks
      simp only [PyData.shown] at z
      exact PySem.P.repr_of_bool z
    | int i =>
      obtain ⟨t, rfl⟩ := rv
      have z := out s.toks
      simp only [PyData.shown] at z
      exact PySem.P.repr_of_int (of_decide_eq_true (by simpa only [PyData.showable] using f1)) z
    | str x =>
      obtain ⟨t, rfl⟩ := rv
      have z := out s.toks
      simp only [PyData.shown] at z f3
      exact PySem.P.repr_of_str z f3
    | lst hl ha =>
      obtain ⟨as, hR, no⟩ := Dd.reads I hs (.lst hl ha) rv
      cases rv
      refine repr_of_reads' hR f1 (fun _ => no) hr.g (by omega) (fun b o e => e) (fun h' u tk keep => ?_) f3
      exact ⟨.str _, H, I.kept keep, ⟨_, rfl⟩, q⟩
    | tup hl ha =>
      obtain ⟨as, hR, no⟩ := Dd.reads I hs (.tup hl ha) rv
      cases rv
      refine repr_of_reads' hR f1 (fun _ => no) hr.g (by omega) (fun b o e => e) (fun h' u tk keep => ?_) f3
      exact ⟨.str _, H, I.kept keep, ⟨_, rfl⟩, q⟩
    | dic hl h1 h2 =>
      obtain ⟨as, hR, no⟩ := Dd.reads I hs (.dic hl h1 h2) rv
      cases rv
      refine repr_of_reads' hR f1 (fun _ => no) hr.g (by omega) (fun b o e => e) (fun h' u tk keep => ?_) f3
      exact ⟨.str _, H, I.kept keep, ⟨_, rfl⟩, q⟩
end Mw
/-! ### what an expression yields, as data -/
namespace Mw
open PySem PySem.Spec PyProof.Rows L2
/-- the most numbers that are ever mixed -/
abbrev most : Nat := 1000000000
/-- the world without draws -/
def wq : Wo := ⟨fun H => H, fun _ _ => True, fun H => Same.refl H, fun _ _ => trivial, fun _ np e => by subst e; exact ⟨trivial, same_upd np, upd_same, np⟩, fun _ _ e => by
  subst e
  exact ⟨trivial, upd_same, fun a u na h => by rw [upd_ne na]; exact h⟩⟩
/-- one object out of sight -/
def hideV (D : Addr) (H : Hp) : Hp := fun a => if a = D then none else H a
theorem hide_le (D : Addr) (H : Hp) : Same (hideV D H) H := fun a o h => by
  unfold hideV at h
  split at h
  · cases h
  · exact h
theorem hide_at {D : Addr} {H : Hp} {a : Addr} {o : HO} (h : H a = some o) (n : a ≠ D) : hideV D H a = some o := by
  unfold hideV
  rw [if_neg n]
  exact h
theorem hide_of {D : Addr} {H : Hp} {a : Addr} {o : HO} (h : hideV D H a = some o) : a ≠ D ∧ H a = some o := by
  unfold hideV at h
  split at h
  · cases h
  · rename_i n
    exact ⟨n, h⟩
theorem hide_same {D : Addr} {H H' : Hp} (e : Same H H') : Same (hideV D H) (hideV D H') := fun a o h =>
  hide_at (e a o (hide_of h).2) (hide_of h).1
/-- the same world, D (which holds o) out of sight -/
def Wo.hide (U : Wo) (D : Addr) (o : HO) : Wo where
  view := fun H => hideV D (U.view H)
  ok := fun n H => U.ok n H ∧ U.view H D = some o
  le := fun H => (hide_le D _).trans (U.le H)
  mono := fun h l => ⟨U.mono h.1 l, h.2⟩
  new := by
    intro n H H1 p o' h np e
    obtain ⟨x, y, z, w⟩ := U.new h.1 np e
    have pD : p ≠ D := fun q => by
      rw [q, U.le _ _ _ h.2] at np
      cases np
    refine ⟨⟨x, y _ _ h.2⟩, hide_same y, hide_at z pD, ?_⟩
    unfold hideV
    rw [if_neg pD]
    exact w
  own := by
    intro n H H1 p o1 o2 h hp e
    obtain ⟨pD, hp⟩ := hide_of hp
    obtain ⟨x, y, z⟩ := U.own h.1 hp e
    exact ⟨⟨x, z _ _ pD.symm h.2⟩, hide_at y pD, fun a u n q => hide_at (z a u n (hide_of q).2) (hide_of q).1⟩
structure At (U : Wo) (n : Nat) (M H : Hp) : Prop where
  ok : U.ok n H
  up : Same M (U.view H)
theorem thousand {n : Nat} (h : n ≤ 100000) : n ≤ sizeLine := Nat.le_trans h (by decide)
section
variable {K : PySem.W.Frag} {U : Wo} {M : Hp} {σ : L2.St} {n c c1 c2 : Nat} {te ta tb : TE} {t : TA} {tt tu : TT}
theorem At.step {H H' : Hp} (a : At U n M H) (ok : U.ok n H') (s : Same (U.view H) (U.view H')) : At U n M H' := ⟨ok, a.up.trans s⟩
theorem At.here {H : Hp} (ok : U.ok n H) : At U n (U.view H) H := ⟨ok, Same.refl _⟩
/-- te yields the data d -/
def E1 (K : PySem.W.Frag) (U : Wo) (M : Hp) (te : TE) (σ : L2.St) (d : PyData) : Prop := ∀ n H, At U n M H → ∀ Q : VK, (∀ v H', U.ok n H' → Same (U.view H) (U.view H') → Dd K (U.view H') v d → Q v H') → te σ H Q
def A1 (K : PySem.W.Frag) (U : Wo) (M : Hp) (t : TA) (σ : L2.St) (ds : List PyData) : Prop := ∀ n H, At U n M H → ∀ Q : List V → Hp → Prop, (∀ vs H', U.ok n H' → Same (U.view H) (U.view H') → DdAll K (U.view H') vs ds → Q vs H') → t σ H Q
def T1 (U : Wo) (M : Hp) (tt : TT) (σ : L2.St) (b : Bool) : Prop := ∀ n H, At U n M H → ∀ Q : Bool → Hp → Prop, (∀ H', U.ok n H' → Same (U.view H) (U.view H') → Q b H') → tt σ H Q
theorem E1.mono {M' : Hp} {d : PyData} (h : E1 K U M te σ d) (e : Same M M') : E1 K U M' te σ d := fun n H a => h n H ⟨a.ok, e.trans a.up⟩
theorem E1.is {d e : PyData} (h : E1 K U M te σ d) (z : d = e) : E1 K U M te σ e := z ▸ h
theorem T1.is {b b' : Bool} (h : T1 U M tt σ b) (z : b = b') : T1 U M tt σ b' := z ▸ h
theorem e1_var {i : Nat} {v : V} {d : PyData} (h : σ[i]? = some (some v)) (hd : Dd K M v d) : E1 K U M (tVar i) σ d := fun n H a Q q => ⟨v, h, q v H a.ok (Same.refl _) (hd.same a.up)⟩
theorem e1_int {i : Int} : E1 K U M (tC (.int i)) σ (.int i) := fun n H a Q q => q _ H a.ok (Same.refl _) (.int i)
theorem e1_str {x : Str} : E1 K U M (tC (.str x)) σ (.str x) := fun n H a Q q => q _ H a.ok (Same.refl _) (.str x)
theorem e1_bl {b : Bool} : E1 K U M (tC (.bl b)) σ (.bool b) := fun n H a Q q => q _ H a.ok (Same.refl _) (.bl b)
theorem e1_non : E1 K U M (tC .non) σ .none := fun n H a Q q => q _ H a.ok (Same.refl _) .non
/-- a tuple that the module wrote -/
theorem e1_kt {a : Addr} {d : PyData} (h : ∀ H, Dd K H (.ref a) d) : E1 K U M (tC (.ref a)) σ d := fun n H at_ Q q => q _ H at_.ok (Same.refl _) (h _)
theorem a1_nil : A1 K U M tNil σ [] := fun n H a Q q => q _ H a.ok (Same.refl _) .nil
theorem a1_cons {d : PyData} {ds : List PyData} (h : E1 K U M te σ d) (hs : A1 K U M t σ ds) : A1 K U M (tCons te t) σ (d :: ds) := fun n H a Q q =>
  h n H a _ fun v H1 ok1 s1 d1 => hs n H1 (a.step ok1 s1) _ fun vs H2 ok2 s2 d2 => q _ H2 ok2 (s1.trans s2) (.cons (d1.same s2) d2)
theorem e1_tup {ds : List PyData} (h : A1 K U M t σ ds) (z : ds.length ≤ 100000) : E1 K U M (tTup t) σ (.tuple ds) := fun n H a Q q =>
  h n H a _ fun vs H1 ok1 s1 d1 => ⟨thousand (d1.len ▸ z), fun p np => by
    obtain ⟨ok2, s2, f2, _⟩ := U.new (o := .tup vs) ok1 np rfl
    exact q _ _ ok2 (s1.trans s2) (.tup (.inl (.inl f2)) (d1.same s2))⟩
theorem e1_lst {ds : List PyData} (h : A1 K U M t σ ds) (z : ds.length ≤ 100000) : E1 K U M (tLst t) σ (.list ds) := fun n H a Q q =>
  h n H a _ fun vs H1 ok1 s1 d1 => ⟨thousand (d1.len ▸ z), fun p np => by
    obtain ⟨ok2, s2, f2, _⟩ := U.new (o := .lst vs) ok1 np rfl
    exact q _ _ ok2 (s1.trans s2) (.lst f2 (d1.same s2))⟩
/-- an operator's rule on data -/
def R1 (K : PySem.W.Frag) (U : Wo) (r : R2) (d1 d2 d : PyData) : Prop := ∀ n H x y, U.ok n H → Dd K (U.view H) x d1 → Dd K (U.view H) y d2 → ∀ Q : VK, (∀ v H', U.ok n H' → Same (U.view H) (U.view H') → Dd K (U.view H') v d → Q v H') → r x y H Q
theorem e1_op {r : R2} {d1 d2 d : PyData} (ha : E1 K U M ta σ d1) (hb : E1 K U M tb σ d2) (hr : R1 K U r d1 d2 d) : E1 K U M (tOp r ta tb) σ d := fun n H a Q q =>
  ha n H a _ fun x H1 ok1 s1 e1 => hb n H1 (a.step ok1 s1) _ fun y H2 ok2 s2 e2 => hr n H2 x y ok2 (e1.same s2) e2 Q fun v H3 ok3 s3 e3 => q v H3 ok3 ((s1.trans s2).trans s3) e3
theorem r1_int {f : Int → Int → Int} {a b : Int} : R1 K U (rI0 fun i j => .int (f i j)) (.int a) (.int b) (.int (f a b)) := fun n H x y ok h1 h2 Q q => by
  cases h1
  cases h2
  exact ⟨a, b, rfl, rfl, q _ H ok (Same.refl _) (.int _)⟩
theorem r1_cmp {f : Int → Int → Bool} {a b : Int} : R1 K U (rI0 fun i j => .bl (f i j)) (.int a) (.int b) (.bool (f a b)) := fun n H x y ok h1 h2 Q q => by
  cases h1
  cases h2
  exact ⟨a, b, rfl, rfl, q _ H ok (Same.refl _) (.bl _)⟩
theorem r1_I {C : Int → Int → Prop} {f : Int → Int → Int} {a b : Int} (hc : C a b) : R1 K U (rI C fun i j => .int (f i j)) (.int a) (.int b) (.int (f a b)) := fun n H x y ok h1 h2 Q q => by
  cases h1
  cases h2
  exact ⟨a, b, rfl, rfl, hc, q _ H ok (Same.refl _) (.int _)⟩
theorem r1_cat {xs ys : List PyData} (z : xs.length + ys.length ≤ 100000) : R1 K U rCat (.list xs) (.list ys) (.list (xs ++ ys)) := fun n H x y ok h1 h2 Q q => by
  cases h1 with
  | lst f1 a1 =>
    cases h2 with
    | lst f2 a2 =>
      refine ⟨_, _, _, _, rfl, rfl, U.le _ _ _ f1, U.le _ _ _ f2, thousand (by rw [a1.len, a2.len]; exact z), fun p np => ?_⟩
      obtain ⟨ok2, s2, f2, _⟩ := U.new (o := .lst _) ok np rfl
      exact q _ _ ok2 s2 (.lst f2 ((a1.app a2).same s2))
theorem r1_eqI {a b : Int} : R1 K U rEq (.int a) (.int b) (.bool (decide (a = b))) := fun n H x y ok h1 h2 Q q => by
  cases h1
  cases h2
  refine ⟨rfl, ?_⟩
  rw [show decide (V.int a = V.int b) = decide (a = b) from decide_eq_decide.mpr ⟨V.int.inj, fun e => e ▸ rfl⟩]
  exact q _ H ok (Same.refl _) (.bl _)
theorem r1_neI {a b : Int} : R1 K U rNe (.int a) (.int b) (.bool (!decide (a = b))) := fun n H x y ok h1 h2 Q q => by
  cases h1
  cases h2
  refine ⟨rfl, ?_⟩
  rw [show decide (V.int a = V.int b) = decide (a = b) from decide_eq_decide.mpr ⟨V.int.inj, fun e => e ▸ rfl⟩]
  exact q _ H ok (Same.refl _) (.bl _)
theorem r1_eqS {a b : Str} : R1 K U rEq (.str a) (.str b) (.bool (decide (a = b))) := fun n H x y ok h1 h2 Q q => by
  cases h1
  cases h2
  refine ⟨rfl, ?_⟩
  rw [show decide (V.str a = V.str b) = decide (a = b) from decide_eq_decide.mpr ⟨V.str.inj, fun e => e ▸ rfl⟩]
  exact q _ H ok (Same.refl _) (.bl _)
theorem r1_neS {a b : Str} : R1 K U rNe (.str a) (.str b) (.bool (!decide (a = b))) := fun n H x y ok h1 h2 Q q => by
  cases h1
  cases h2
  refine ⟨rfl, ?_⟩
  rw [show decide (V.str a = V.str b) = decide (a = b) from decide_eq_decide.mpr ⟨V.str.inj, fun e => e ▸ rfl⟩]
  exact q _ H ok (Same.refl _) (.bl _)
/-- x in (a, b, ..), not in: flat data -/
theorem r1_inT {neg : Bool} {d : PyData} {ds : List PyData} (f : flatD d = true) (g : ds.all flatD = true) : R1 K U (rIn K neg) d (.tuple ds) (.bool (if neg then !ds.any fun e => PyData.eqv e d else ds.any fun e => PyData.eqv e d)) := fun n H x y ok h1 h2 Q q => by
  have e1 := h1.flat f
  subst e1
  cases h2 with
  | tup hq ha =>
    have e2 := ha.flat g
    subst e2
    refine ⟨_, _, rfl, .inr (seqT (U.le _) hq), flat_val f, flats_val g, ?_⟩
    rw [inV_val f g]
    cases neg <;> exact q _ H ok (Same.refl _) (.bl _)
theorem r1_inL {neg : Bool} {d : PyData} {ds : List PyData} (f : flatD d = true) (g : ds.all flatD = true) : R1 K U (rIn K neg) d (.list ds) (.bool (if neg then !ds.any fun e => PyData.eqv e d else ds.any fun e => PyData.eqv e d)) := fun n H x y ok h1 h2 Q q => by
  have e1 := h1.flat f
  subst e1
  cases h2 with
  | lst hq ha =>
    have e2 := ha.flat g
    subst e2
    refine ⟨_, _, rfl, .inl (.inl (.inl (U.le _ _ _ hq))), flat_val f, flats_val g, ?_⟩
    rw [inV_val f g]
    cases neg <;> exact q _ H ok (Same.refl _) (.bl _)
theorem r1_eqD {d e : PyData} (s1 : SeqAt.shaped d = true) (s2 : SeqAt.shaped e = true) : R1 K U (rEqD K) d e (.bool (PyData.eqv d e)) := fun n H x y ok h1 h2 Q q =>
  ⟨d, e, (h1.same (U.le _)).dp (SeqAt.canLay_of_shaped s1), (h2.same (U.le _)).dp (SeqAt.canLay_of_shaped s2), s1, s2, q _ H ok (Same.refl _) (.bl _)⟩
theorem r1_neD {d e : PyData} (s1 : SeqAt.shaped d = true) (s2 : SeqAt.shaped e = true) : R1 K U (rNeD K) d e (.bool (!PyData.eqv d e)) := fun n H x y ok h1 h2 Q q =>
  ⟨d, e, (h1.same (U.le _)).dp (SeqAt.canLay_of_shaped s1), (h2.same (U.le _)).dp (SeqAt.canLay_of_shaped s2), s1, s2, q _ H ok (Same.refl _) (.bl _)⟩
theorem e1_neg {i : Int} (h : E1 K U M ta σ (.int i)) : E1 K U M (tUn (rU fun i => .int (-i)) ta) σ (.int (-i)) := fun n H a Q q => h n H a _ fun v H1 ok1 s1 d1 => by
  cases d1
  exact ⟨i, rfl, q _ H1 ok1 s1 (.int _)⟩
/-! tests -/
theorem t1_val {b : Bool} (h : E1 K U M te σ (.bool b)) : T1 U M (tB te) σ b := fun n H a Q q => h n H a _ fun v H1 ok1 s1 d1 => by
  cases d1
  exact ⟨b, rfl, q H1 ok1 s1⟩
theorem t1_test {b : Bool} (h : E1 K U M te σ (.bool b)) : T1 U M (tTest te) σ b := fun n H a Q q => h n H a _ fun v H1 ok1 s1 d1 => by
  cases d1
  exact ⟨b, rfl, q H1 ok1 s1⟩
theorem t1_not {b : Bool} (h : T1 U M tt σ b) : T1 U M (tNot tt) σ (!b) := fun n H a Q q => h n H a _ fun H1 ok1 s1 => q H1 ok1 s1
theorem t1_yes : T1 U M tYes σ true := fun n H a Q q => q H a.ok (Same.refl _)
theorem t1_and {a b : Bool} (h1 : T1 U M tt σ a) (h2 : a = true → T1 U M tu σ b) : T1 U M (tAnd tt tu) σ (a && b) := fun n H at_ Q q => h1 n H at_ _ fun H1 ok1 s1 => by
  cases a with
  | true => exact iteT (h2 rfl n H1 (at_.step ok1 s1) Q fun H2 ok2 s2 => q H2 ok2 (s1.trans s2))
  | false => exact iteF (q H1 ok1 s1)
theorem t1_or {a b : Bool} (h1 : T1 U M tt σ a) (h2 : a = false → T1 U M tu σ b) : T1 U M (tOr tt tu) σ (a || b) := fun n H at_ Q q => h1 n H at_ _ fun H1 ok1 s1 => by
  cases a with
  | true => exact iteT (q H1 ok1 s1)
  | false => exact iteF (h2 rfl n H1 (at_.step ok1 s1) Q fun H2 ok2 s2 => q H2 ok2 (s1.trans s2))
theorem e1_and {a b : Bool} (h1 : E1 K U M ta σ (.bool a)) (h2 : a = true → E1 K U M tb σ (.bool b)) : E1 K U M (tAndV ta tb) σ (.bool (a && b)) := fun n H at_ Q q => h1 n H at_ _ fun v H1 ok1 s1 d1 => by
  cases d1
  refine ⟨a, rfl, ?_⟩
  cases a with
  | true => exact iteT (h2 rfl n H1 (at_.step ok1 s1) Q fun v H2 ok2 s2 d2 => q v H2 ok2 (s1.trans s2) d2)
  | false => exact iteF (q _ H1 ok1 s1 (.bl _))
theorem e1_or {a b : Bool} (h1 : E1 K U M ta σ (.bool a)) (h2 : a = false → E1 K U M tb σ (.bool b)) : E1 K U M (tOrV ta tb) σ (.bool (a || b)) := fun n H at_ Q q => h1 n H at_ _ fun v H1 ok1 s1 d1 => by
  cases d1
  refine ⟨a, rfl, ?_⟩
  cases a with
  | true => exact iteT (q _ H1 ok1 s1 (.bl _))
  | false => exact iteF (h2 rfl n H1 (at_.step ok1 s1) Q fun v H2 ok2 s2 d2 => q v H2 ok2 (s1.trans s2) d2)
theorem e1_not {a : Bool} (h : E1 K U M ta σ (.bool a)) : E1 K U M (tNotV ta) σ (.bool (!a)) := fun n H at_ Q q => h n H at_ _ fun v H1 ok1 s1 d1 => by
  cases d1
  exact ⟨a, rfl, q _ H1 ok1 s1 (.bl _)⟩
theorem e1_if {b : Bool} {d : PyData} (h : T1 U M tt σ b) (h1 : b = true → E1 K U M ta σ d) (h2 : b = false → E1 K U M tb σ d) : E1 K U M (tIf tt ta tb) σ d := fun n H at_ Q q => h n H at_ _ fun H1 ok1 s1 => by
  cases b with
  | true => exact iteT (h1 rfl n H1 (at_.step ok1 s1) Q fun v H2 ok2 s2 d2 => q v H2 ok2 (s1.trans s2) d2)
  | false => exact iteF (h2 rfl n H1 (at_.step ok1 s1) Q fun v H2 ok2 s2 d2 => q v H2 ok2 (s1.trans s2) d2)
/-- a <= b <= c -/
theorem t1_chain {r r' : R2} {tc : TE} {d1 d2 d3 : PyData} {a b : Bool} (ha : E1 K U M ta σ d1) (hb : E1 K U M tb σ d2) (hr : R1 K U r d1 d2 (.bool a)) (hc : a = true → E1 K U M tc σ d3) (hr' : a = true → R1 K U r' d2 d3 (.bool b)) :
    T1 U M (tTest (tChain r r' ta tb tc)) σ (a && b) := fun n H at_ Q q => ha n H at_ _ fun x H1 ok1 s1 e1 => hb n H1 (at_.step ok1 s1) _ fun y H2 ok2 s2 e2 => hr n H2 x y ok2 (e1.same s2) e2 _ fun v H3 ok3 s3 e3 => by
  cases e3
  refine ⟨a, rfl, ?_⟩
  have st := (s1.trans s2).trans s3
  cases a with
  | true =>
    refine iteT (hc rfl n H3 (at_.step ok3 st) _ fun w H4 ok4 s4 e4 => hr' rfl n H4 y w ok4 (e2.same (s3.trans s4)) e4 _ fun u H5 ok5 s5 e5 => ?_)
    cases e5
    exact ⟨b, rfl, q H5 ok5 ((st.trans s4).trans s5)⟩
  | false => exact iteF ⟨false, rfl, q H3 ok3 st⟩
/-! built-ins -/
def tyD : PyData → String
  | .none => "NoneType"
  | .bool _ => "bool"
  | .int _ => "int"
  | .str _ => "str"
  | .list _ => "list"
  | .tuple _ => "tuple"
  | .dict _ => "dict"
theorem Dd.ty {H : Hp} {v : V} {d : PyData} (h : Dd K H v d) : TyX K H v (.type (tyD d)) := by
  cases h with
  | non => exact .base .non
  | bl b => exact .base (.bl b)
  | int i => exact .base (.int i)
  | str x => exact .base (.str x)
  | lst h _ => exact .base (.lst h)
  | tup h _ =>
    rcases h with (h | ⟨o, h⟩) | ⟨o, its, m, h, hc, _⟩
    · exact .base (.tup h)
    · exact .fTuple h
    · exact .kTuple h hc
  | dic h _ _ => exact .base (.dK h)
theorem e1_isi {T : String} {d : PyData} {b : Bool} (h : E1 K U M te σ d) (hb : kitB (tyD d) T = some b) : E1 K U M (tCB (rIsi K) (tCons te (tCons (tC (.ty T)) tNil))) σ (.bool b) := fun n H a Q q => h n H a _ fun v H1 ok1 s1 d1 =>
  ⟨v, .ty T, _, _, b, rfl, .ty T, (d1.same (U.le _)).ty, kit_ty hb, q _ H1 ok1 s1 (.bl b)⟩
def isiAny (d : PyData) : List String → Option Bool
  | [] => some false
  | T :: r => match kitB (tyD d) T with
    | some true => some true
    | some false => isiAny d r
    | none => none
theorem kit_any {d : PyData} : ∀ {Ts : List String} {b : Bool}, isiAny d Ts = some b → PySem.W.kitAny K (.type (tyD d)) (Ts.map Value.type) = some b
  | [], b, h => h
  | T :: r, b, h => by
    unfold isiAny at h
    cases e : kitB (tyD d) T with
    | none =>
      rw [e] at h
      cases h
    | some x =>
      rw [e] at h
      refine kitAny_cons (kit_ty e) (fun z => ?_) (fun z => ?_)
      · subst z
        exact kit_any h
      · subst z
        exact (Option.some.inj h).symm
theorem e1_isi2 {A B : String} {d : PyData} {b : Bool} (h : E1 K U M te σ d) (hb : isiAny d [A, B] = some b) : E1 K U M (tCB (rIsiT K) (tCons te (tCons (tTup (tCons (tC (.ty A)) (tCons (tC (.ty B)) tNil))) tNil))) σ (.bool b) := fun n H a Q q => h n H a _ fun v H1 ok1 s1 d1 =>
  ⟨(show 2 ≤ sizeLine by decide), fun p np => by
    obtain ⟨ok2, s2, f2, _⟩ := U.new (o := .tup [.ty A, .ty B]) ok1 np rfl
    exact ⟨v, p, [.ty A, .ty B], _, [.type A, .type B], b, rfl, upd_same, .cons (.ty A) (.cons (.ty B) .nil), ((d1.same s2).same (U.le _)).ty, kit_any (Ts := [A, B]) hb, q _ _ ok2 (s1.trans s2) (.bl b)⟩⟩
def lenD : PyData → Option Nat
  | .str x => some x.length
  | .list xs => some xs.length
  | .tuple xs => some xs.length
  | _ => none
theorem e1_len {d : PyData} {m : Nat} (h : E1 K U M te σ d) (hm : lenD d = some m) (z : m ≤ 100000) : E1 K U M (tCB (fun xs H Q => ∃ x n, xs = [x] ∧ LenV K x H n ∧ Q (.int n) H) (tCons te tNil)) σ (.int m) := fun n H a Q q => h n H a _ fun v H1 ok1 s1 d1 => by
  refine ⟨v, m, rfl, ?_, q _ H1 ok1 s1 (.int _)⟩
  cases d1 with
  | str x =>
    cases hm
    exact ⟨thousand z, rfl⟩
  | lst hq ha =>
    cases hm
    exact .inl ⟨_, .inl (.inl (U.le _ _ _ hq)), ha.len.symm⟩
  | tup hq ha =>
    cases hm
    exact .inr ⟨_, seqT (U.le _) hq, ha.len.symm⟩
  | non => cases hm
  | bl b => cases hm
  | int i => cases hm
  | dic _ _ _ => cases hm
theorem bools {H : Hp} : ∀ {bs : List Bool} {vs : List V}, DdAll K H vs (bs.map .bool) → vs = bs.map V.bl
  | [], _, .nil => rfl
  | b :: bs, _, .cons h a => by
    cases h
    rw [List.map_cons, ← bools a]
theorem e1_all {bs : List Bool} (h : E1 K U M te σ (.list (bs.map .bool))) : E1 K U M (tCB (rAll K) (tCons te tNil)) σ (.bool (bs.all id)) := fun n H a Q q => h n H a _ fun v H1 ok1 s1 d1 => by
  cases d1 with
  | lst hq ha =>
    have e := bools ha
    subst e
    exact ⟨_, bs, rfl, .inl (.inl (U.le _ _ _ hq)), q _ H1 ok1 s1 (.bl _)⟩
theorem e1_tuple {d : PyData} {ds : List PyData} (h : E1 K U M te σ d) (hd : d = .list ds ∨ d = .tuple ds) : E1 K U M (tCB (fun xs H Q => ∃ p ys, xs = [.ref p] ∧ ((SqL K H p ys ∧ ∀ l, H l = none → Q (.ref l) (upd H l (.tup ys))) ∨ (SqT K H p ys ∧ Q (.ref p) H))) (tCons te tNil)) σ (.tuple ds) := fun n H a Q q => h n H a _ fun v H1 ok1 s1 d1 => by
  rcases hd with rfl | rfl
  · cases d1 with
    | lst hq ha =>
      refine ⟨_, _, rfl, .inl ⟨.inl (.inl (U.le _ _ _ hq)), fun l nl => ?_⟩⟩
      obtain ⟨ok2, s2, f2, _⟩ := U.new (o := .tup _) ok1 nl rfl
      exact q _ _ ok2 (s1.trans s2) (.tup (.inl (.inl f2)) (ha.same s2))
  · cases d1 with
    | tup hq ha => exact ⟨_, _, rfl, .inr ⟨seqT (U.le _) hq, q _ H1 ok1 s1 (.tup hq ha)⟩⟩
/-! what is walked -/
def I1 (K : PySem.W.Frag) (U : Wo) (M : Hp) (wi : TI) (σ : L2.St) (ds : List PyData) : Prop := ∀ n H, At U n M H → ∀ R : It → Hp → Prop, (∀ J H', U.ok n H' → Same (U.view H) (U.view H') →
  Walk J ds.length (fun H2 => Same (U.view H') (U.view H2)) (fun i H2 v H3 => H3 = H2 ∧ ∃ d, ds[i]? = some d ∧ Dd K (U.view H') v d) → R J H') → wi σ H R
theorem i1_list {ds : List PyData} (h : E1 K U M te σ (.list ds)) : I1 K U M (iList K te) σ ds := fun n H a R r => h n H a _ fun v H1 ok1 s1 d1 => by
  cases d1 with
  | lst hq ha =>
    have hs : SqL K H1 _ _ := .inl (.inl (U.le _ _ _ hq))
    refine ⟨_, rfl, ⟨_, hs⟩, r _ H1 ok1 s1 ?_⟩
    rw [← ha.len]
    refine walk_list.mono (fun H2 z => .inl (.inl (U.le _ _ _ (z _ _ hq)))) (fun i H2 x H3 hi z y => ⟨y.1, ?_⟩)
    exact ha.at y.2
theorem i1_tup {ds : List PyData} (h : E1 K U M te σ (.tuple ds)) : I1 K U M (iTup K te) σ ds := fun n H a R r => h n H a _ fun v H1 ok1 s1 d1 => by
  cases d1 with
  | tup hq ha =>
    refine ⟨_, rfl, ⟨_, seqT (U.le _) hq⟩, r _ H1 ok1 s1 ?_⟩
    rw [← ha.len]
    refine walk_tup.mono (fun H2 z => seqT (U.le _) (seqT z hq)) (fun i H2 x H3 hi z y => ⟨y.1, ?_⟩)
    exact ha.at y.2
/-- the signs of a text -/
def signs (x : Str) : List PyData := x.cps.toList.map fun c => .str ⟨#[c]⟩
theorem i1_str {x : Str} (h : E1 K U M te σ (.str x)) : I1 K U M (iStr te) σ (signs x) := fun n H a R r => h n H a _ fun v H1 ok1 s1 d1 => by
  cases d1
  refine ⟨x, rfl, r _ H1 ok1 s1 ?_⟩
  have e : (signs x).length = x.cps.size := by
    unfold signs
    rw [List.length_map, Array.length_toList]
  rw [e]
  refine walk_str.mono (fun H2 z => trivial) (fun i H2 v H3 hi z y => ⟨y.1, ?_⟩)
  obtain ⟨c, hc, rfl⟩ := y.2
  refine ⟨.str ⟨#[c]⟩, ?_, .str _⟩
  unfold signs
  rw [List.getElem?_map, Array.getElem?_toList, hc] <;> rfl
theorem filter_snoc {α β : Type} {p : α → Bool} {f : α → β} {l : List α} {i : Nat} {d : α} (h : l[i]? = some d) : ((l.take (i + 1)).filter p).map f = ((l.take i).filter p).map f ++ (if p d = true then [f d] else []) := by
  rw [List.take_add_one, h]
  show (((l.take i) ++ [d]).filter p).map f = _
  rw [List.filter_append, List.map_append, List.filter_cons]
  split <;> rfl
/-- [e for x in xs if t] -/
theorem e1_lc {wi : TI} {j : Nat} {vs : List Nat} {ds : List PyData} {p : PyData → Bool} {f : PyData → PyData} (h : I1 K U M wi σ ds) (z : ds.length ≤ 100000) (hw : ∀ x, wipe ((wipe σ vs).set j (some x)) vs = wipe σ vs)
    (ht : ∀ (U' : Wo) M' v d, Same M M' → d ∈ ds → Dd K M' v d → T1 U' M' tt ((wipe σ vs).set j (some v)) (p d)) (he : ∀ (U' : Wo) M' v d, Same M M' → d ∈ ds → p d = true → Dd K M' v d → E1 K U' M' te ((wipe σ vs).set j (some v)) (f d)) :
    E1 K U M (tLc wi (gName j) tt te vs) σ (.list ((ds.filter p).map f)) := fun n H a Q q => h n H a _ fun J H1 ok1 s1 w => by
  intro D nD
  have a1 : At U n M H1 := a.step ok1 s1
  have nD0 : U.view H1 D = none := by
    cases e : U.view H1 D with
    | none => rfl
    | some o =>
      rw [U.le _ _ _ e] at nD
      cases nD
  have off : Same (U.view H1) (hideV D (U.view H1)) := fun b o e => hide_at e (fun q => by
    rw [q, nD0] at e
    cases e)
  refine lc_it w (fun i H' => U.ok n H' ∧ Same (U.view H1) (hideV D (U.view H')) ∧ ∃ acc, U.view H' D = some (.lst acc) ∧ DdAll K (hideV D (U.view H')) acc (((ds.take i).filter p).map f)) ?_ (fun i H' _ z => z.2.1.trans (hide_le _ _)) ?_ ?_
  · obtain ⟨ok2, s2, f2, _⟩ := U.new (o := .lst []) ok1 nD rfl
    exact ⟨ok2, off.trans (hide_same s2), [], f2, .nil⟩
  · rintro i x H2 H3 hi ⟨ok2, s2, acc, f2, da⟩ ⟨rfl, d, hd, dx⟩
    have hm : d ∈ ds := List.mem_of_getElem? hd
    refine ⟨hw x, ht (U.hide D (.lst acc)) (U.view H1) x d (a1.up) hm dx n _ ⟨⟨ok2, f2⟩, s2⟩ _ fun H4 ok4 s4 => ?_⟩
    have st : ((ds.take (i + 1)).filter p).map f = ((ds.take i).filter p).map f ++ (if p d = true then [f d] else []) := filter_snoc hd
    cases hp : p d with
    | false =>
      refine iteF ⟨ok4.1, s2.trans s4, acc, ok4.2, ?_⟩
      rw [st, hp, if_neg Bool.false_ne_true, List.append_nil]
      exact da.same s4
    | true =>
      refine iteT (he (U.hide D (.lst acc)) (U.view H1) x d (a1.up) hm hp dx n H4 ⟨ok4, s2.trans s4⟩ _ fun y H5 ok5 s5 dy => ?_)
      have hl : acc.length ≤ 100000 := by
        rw [da.len, List.length_map]
        refine Nat.le_trans (List.length_filter_le _ _) (Nat.le_trans ?_ z)
        rw [List.length_take]
        exact Nat.min_le_right _ _
      refine ⟨acc, U.le _ _ _ ok5.2, Nat.lt_of_le_of_lt hl (by decide), ?_⟩
      obtain ⟨ok6, f6, o6⟩ := U.own (o := .lst (acc ++ [y])) ok5.1 ok5.2 rfl
      have k6 : Same (hideV D (U.view H5)) (hideV D (U.view (upd H5 D (.lst (acc ++ [y]))))) := fun b u e => hide_at (o6 b u (hide_of e).1 (hide_of e).2) (hide_of e).1
      refine ⟨ok6, ((s2.trans s4).trans s5).trans k6, _, f6, ?_⟩
      rw [st, hp, if_pos rfl]
      exact ((da.same s4).same (s5.trans k6)).app (.cons (dy.same k6) .nil)
  · rintro H2 ⟨ok2, s2, acc, f2, da⟩
    rw [List.take_length] at da
    exact q _ _ ok2 (s1.trans (s2.trans (hide_le _ _))) (.lst f2 (da.same (hide_le _ _)))
/-! calls, statements -/
/-- a def that changes nothing: it yields f of its data, where pre holds of it -/
def spF (K : PySem.W.Frag) (m : Nat) (pre : List PyData → Prop) (f : List PyData → PyData) : Sp := fun vs H Q _ => ∃ (U : Wo) (n : Nat) (ds : List PyData), U.ok n H ∧ DdAll K (U.view H) vs ds ∧ ds.length = m ∧ pre ds ∧
  ∀ v H', U.ok n H' → Same (U.view H) (U.view H') → Dd K (U.view H') v (f ds) → Q v H'
theorem spF_len {m : Nat} {pre : List PyData → Prop} {f : List PyData → PyData} {vs : List V} {H : Hp} {Q : VK} {E : XK} (h : spF K m pre f vs H Q E) : vs.length = m := by
  obtain ⟨U, n, ds, _, hd, e, _⟩ := h
  rw [hd.len, e]
theorem e1_go {m : Nat} {pre : List PyData → Prop} {f : List PyData → PyData} {ds : List PyData} (h : A1 K U M t σ ds) (hm : ds.length = m) (hp : pre ds) : E1 K U M (tGo (spF K m pre f) t) σ (f ds) := fun n H a Q q =>
  h n H a _ fun vs H1 ok1 s1 d1 => ⟨U, n, ds, ok1, d1, hm, hp, fun v H2 ok2 s2 d2 => q v H2 ok2 (s1.trans s2) d2⟩
variable {D : Ends} {H : Hp}
theorem s1_ret {d : PyData} (a : At U n M H) (h : E1 K U M te σ d) (q : ∀ v H', At U n M H' → Same (U.view H) (U.view H') → Dd K (U.view H') v d → D.rt v H') : tRet te D σ H :=
  h n H a _ fun v H1 ok1 s1 d1 => q v H1 (a.step ok1 s1) s1 d1
theorem s1_asg {i : Nat} {d : PyData} (a : At U n M H) (h : E1 K U M te σ d) (q : ∀ v H', At U n (U.view H') H' → Same (U.view H) (U.view H') → Dd K (U.view H') v d → D.nx (σ.set i (some v)) H') : tAsg te (gName i) D σ H :=
  h n H a _ fun v H1 ok1 s1 d1 => q v H1 (At.here ok1) s1 d1
theorem s1_if {b : Bool} {t u : TS} (a : At U n M H) (h : T1 U M tt σ b) (q1 : b = true → ∀ H', At U n M H' → Same (U.view H) (U.view H') → t D σ H') (q2 : b = false → ∀ H', At U n M H' → Same (U.view H) (U.view H') → u D σ H') : tIfS tt t u D σ H :=
  h n H a _ fun H1 ok1 s1 => by
    cases b with
    | true => exact iteT (q1 rfl H1 (a.step ok1 s1) s1)
    | false => exact iteF (q2 rfl H1 (a.step ok1 s1) s1)
/-- the start of such a def's body -/
theorem spF_go {m : Nat} {pre : List PyData → Prop} {f : List PyData → PyData} {vs : List V} {Q : VK} {E : XK} (h : spF K m pre f vs H Q E) : ∃ (U : Wo) (n : Nat) (ds : List PyData), At U n (U.view H) H ∧ DdAll K (U.view H) vs ds ∧ ds.length = m ∧ pre ds ∧
    ∀ v H', U.ok n H' → Same (U.view H) (U.view H') → Dd K (U.view H') v (f ds) → Q v H' := by
  obtain ⟨U, n, ds, ok, hd, e, hp, q⟩ := h
  exact ⟨U, n, ds, At.here ok, hd, e, hp, q⟩
end
end Mw
namespace Mw
open PySem PySem.Spec PyProof.Rows L2
section
variable {P : Program} {w : World} {K : PySem.W.Frag} {mg : Str → Option Value} {base : Heap}
def spTake : Sp := fun vs H Q _ => ∃ (W : Wd) (n : Nat) (z : Int), vs = [.ref W.d, .int z] ∧ StOk W n H ∧ n ≤ most ∧ 0 < z ∧ z ≤ 18446744073709551616 ∧
  ∀ (k : Int) (H' : Hp), 0 ≤ k → k < z → StOk W (n + 1) H' → Same (mk W H) (mk W H') → Q (.int k) H'
theorem div_ok {z : Int} (h0 : 0 < z) (h1 : z ≤ 18446744073709551616) : CDivW 0 z := wide_div (b := 65) h0 (by
  have : z.natAbs ≤ 18446744073709551616 := by omega
  exact Nat.lt_of_le_of_lt this (by decide)) (by decide) (by decide)
theorem ok_take {f : Addr} {fd : FuncData} (F : Fun K "_law_take" "_law_take" s__law_take f fd) (T : Blt mg) (G__law_mixed : Def P w K mg base "_law_mixed" 1 ["state"] spMixed) : FnG P w K mg base 2 f fd ["state", "size"] spTake := by
  refine fnG F sc__law_take (fun vs H Q E h => ?_) (fun cdv A outer s H vs Q E hr h => ?_)
  · obtain ⟨W, n, z, rfl, _⟩ := h
    rfl
  · obtain ⟨W, n, z, rfl, ⟨r, t, ns, cs, S, ht⟩, hn, z0, z1, q⟩ := h
    have hu := hu_of hr.r
    have hu64 := hu64 hr.r
    have hsz : (most : Int) = 1000000000 := rfl
    refine ⟨_, Evl.pss_cut (ps_if (pt_cmpR op_eq (pe_dget hu (pv 0) pe_str (fun _ _ => rfl)) pe_int (nomark _))
        (pss_one (ps_dput hu (pv 0) pe_str (pe_ifExp (pt_cmpR (op_neD hu64) (pe_dget hu (pv 0) pe_str (fun _ _ => rfl)) (pe_lst pa_nil) (nomark _)) (pe_bm PySem.F.plainAttrs_list PySem.F.slot_list_pop PySem.F.type_list_pop mt_popAt (pe_dget hu (pv 0) pe_str (fun _ _ => rfl)) (pa_cons pe_int pa_nil)) (pe_go G__law_mixed hr (pa_cons (pv 0) pa_nil))) rfl))
        pss_nil)
        (pss_cons (ps_set (i := 2) sc__law_take.nd rfl (.inl rfl) (pe_op op_mod (pe_callTy call_int1 (by rfl) T.int (by decide +kernel) (pa_cons (pe_dget hu (pv 0) pe_str (fun _ _ => rfl)) pa_nil)) (pv 1)))
        (pss_cons (ps_dput hu (pv 0) pe_str (pe_op op_fdivW (pe_dget hu (pv 0) pe_str (fun _ _ => rfl)) (pv 1)) rfl)
        (pss_one (ps_ret (pv 2))))), ?_⟩
    refine ⟨fun σ H1 => σ = [some (.ref W.d), some (.int z), none] ∧ Same (mk W H) (mk W H1) ∧ ∃ (r1 t1 : Int) (ns1 : List Int), StAt W r1 t1 ns1 cs H1 ∧ t1 ≤ n + 1, ?_, ?_⟩
    · walk_at "mw"
      refine ⟨.ref W.d, rfl, W.d, .int r, rfl, ?_, rfl, _, rfl, ?_⟩
      · rw [← kv_rest W r t]
        exact DGet.k (k := Sum.inr "rest") S.d
      by_cases h0 : V.int r = V.int 0
      · rw [decide_eq_true h0]
        walk_at "mw"
        -- state["wide"] != []
        refine ⟨.ref W.d, rfl, W.d, .ref W.w, rfl, ?_, ?_⟩
        · rw [← kv_wide W r t]
          exact DGet.k (k := Sum.inr "wide") S.d
        walk_at "mw"
        refine ⟨by show 0 ≤ sizeLine; decide, fun p np => ?_⟩
        have e1 : Same H (upd H p (.lst [])) := same_upd np
        have S1 : StAt W r t ns cs (upd H p (.lst [])) := ⟨e1 _ _ S.d, e1 _ _ S.w, e1 _ _ S.c, S.ne, S.cs, S.t0⟩
        have m1 : Same (mk W H) (mk W (upd H p (.lst []))) := mk_same e1
        have hp : (upd H p (.lst [])) p = some (.lst []) := upd_same
        generalize upd H p (.lst []) = H1 at S1 m1 hp
        refine ne_nil (.inl (.inl S1.w)) (.inl (.inl hp)) (fun x hx => ?_) ?_
        · obtain ⟨i, _, rfl⟩ := List.mem_map.mp hx
          exact good_int i
        walk_at "mw"
        cases ns with
        | cons k ns =>
          refine iteT ?_
          walk_at "mw"
          refine ⟨.ref W.d, rfl, W.d, .ref W.w, rfl, ?_, ?_⟩
          · rw [← kv_wide W r t]
            exact DGet.k (k := Sum.inr "wide") S1.d
          refine ⟨.inl ⟨rfl, _, .inl (.inl S1.w)⟩, ?_⟩
          walk_at "mw"
          refine ⟨W.w, _, 0, 0, .int k, rfl, rfl, S1.w, by decide, by decide, (by rw [List.length_map, List.length_cons]; exact seqIndex_of (Int.le_refl 0) (by omega)), rfl, ?_⟩
          refine ⟨.ref W.d, rfl, W.d, _, rfl, DPut.k (k := Sum.inr "rest") (kvs := kvs0 W r t) (by rw [upd_ne S1.nwd.symm]; exact S1.d) (by show 4 < sizeLine; decide), ?_⟩
          rw [pk_rest]
          refine ⟨rfl, ?_, k, t, ns, ⟨upd_same, ?_, ?_, S1.ne, S1.cs, S1.t0⟩, by omega⟩
          · rw [mk_upd_d, mk_upd_w]
            exact m1
          · rw [upd_ne S1.nwd, upd_same]
            rfl
          · rw [upd_ne S1.ncd, upd_ne S1.ne]
            exact S1.c
        | nil =>
          refine iteF ?_
          walk_at "mw"
          refine ⟨W, r, t, [], cs, rfl, S1, by omega, fun k H2 S2 m2 => ?_⟩
          refine ⟨.ref W.d, rfl, W.d, _, rfl, DPut.k (k := Sum.inr "rest") (kvs := kvs0 W r (t + 1)) S2.d (by show 4 < sizeLine; decide), ?_⟩
          rw [pk_rest]
          refine ⟨rfl, ?_, k, t + 1, [], ⟨upd_same, ?_, ?_, S2.ne, S2.cs, S2.t0⟩, by omega⟩
          · rw [mk_upd_d]
            exact m1.trans m2
          · rw [upd_ne S2.nwd]
            exact S2.w
          · rw [upd_ne S2.ncd]
            exact S2.c
      · rw [decide_eq_false h0]
        walk_at "mw"
        exact ⟨rfl, Same.refl _, r, t, ns, S, by omega⟩
    · rintro σ H1 ⟨rfl, m1, r1, t1, ns1, S1, h1⟩
      walk_at "mw"
      refine ⟨.ref W.d, rfl, W.d, .int r1, rfl, ?_, ?_⟩
      · rw [← kv_rest W r1 t1]
        exact DGet.k (k := Sum.inr "rest") S1.d
      walk_at "mw"
      refine rd_I z0 ?_
      walk_at "mw"
      refine ⟨.ref W.d, rfl, W.d, .int r1, rfl, ?_, ?_⟩
      · rw [← kv_rest W r1 t1]
        exact DGet.k (k := Sum.inr "rest") S1.d
      walk_at "mw"
      refine rd_I (div_ok z0 z1) ?_
      refine ⟨.ref W.d, rfl, W.d, _, rfl, DPut.k (k := Sum.inr "rest") S1.d (by show 4 < sizeLine; decide), ?_⟩
      rw [pk_rest]
      walk_at "mw"
      refine q _ _ (Int.emod_nonneg r1 (by omega)) (Int.emod_lt_of_pos r1 z0) ⟨_, t1, ns1, cs, ⟨upd_same, ?_, ?_, S1.ne, S1.cs, S1.t0⟩, by omega⟩ ?_
      · rw [upd_ne S1.nwd]
        exact S1.w
      · rw [upd_ne S1.ncd]
        exact S1.c
      · rw [mk_upd_d]
        exact m1
/-- an item of a list, a tuple, a text -/
def spPick (K : PySem.W.Frag) : Sp := fun vs H Q _ => ∃ (W : Wd) (n : Nat) (y : V), vs = [.ref W.d, y] ∧ StOk W n H ∧ n ≤ most ∧
  ((∃ (p : Addr) (xs : List V), y = .ref p ∧ (SqL K (mk W H) p xs ∨ SqT K (mk W H) p xs) ∧ xs ≠ [] ∧ xs.length ≤ 100000 ∧ ∀ (x : V) (H' : Hp), x ∈ xs → StOk W (n + 1) H' → Same (mk W H) (mk W H') → Q x H') ∨
   (∃ z : Str, y = .str z ∧ 0 < z.length ∧ z.length ≤ 100000 ∧ ∀ (c : Nat) (H' : Hp), c ∈ z.cps.toList → StOk W (n + 1) H' → Same (mk W H) (mk W H') → Q (.str ⟨#[c]⟩) H'))
theorem ok_pick {f : Addr} {fd : FuncData} (F : Fun K "_law_pick" "_law_pick" s__law_pick f fd) (T : Blt mg) (G__law_take : Def P w K mg base "_law_take" 2 ["state", "size"] spTake) : FnG P w K mg base 3 f fd ["state", "some"] (spPick K) := by
  refine fnG F sc__law_pick (fun vs H Q E h => ?_) (fun cdv A outer s H vs Q E hr h => ?_)
  · obtain ⟨W, n, y, rfl, _⟩ := h
    rfl
  · obtain ⟨W, n, y, rfl, S, hn, q⟩ := h
    refine ⟨_, pss_one (ps_ret (pe_ix ix_seq (pv 1) (pe_go G__law_take hr (pa_cons (pv 0) (pa_cons (pe_callB call_len (by rfl) T.len (by decide +kernel) (pa_cons (pv 1) pa_nil)) pa_nil))) (fun _ _ => rfl))), ?_⟩
    walk_at "mw"
    rcases q with ⟨p, xs, rfl, hp, hne, hl, q⟩ | ⟨z, rfl, h0, hl, q⟩
    · have hp' : SqL K H p xs ∨ SqT K H p xs := hp.elim (fun z => .inl ((mk_le W H).seq z)) (fun z => .inr (seqT (mk_le W H) z))
      have hpos : 0 < xs.length := List.length_pos_iff.mpr hne
      refine ⟨_, xs.length, rfl, hp'.elim (fun z => .inl ⟨xs, z, rfl⟩) (fun z => .inr ⟨xs, z, rfl⟩), ?_⟩
      walk_at "mw"
      refine ⟨W, n, _, rfl, S, hn, by omega, by omega, fun k H1 k0 k1 S1 e1 => ?_⟩
      obtain ⟨j, rfl⟩ : ∃ j : Nat, k = j := ⟨k.toNat, by omega⟩
      have hj : j < xs.length := by omega
      have hx : xs[j]? = some xs[j] := List.getElem?_eq_getElem hj
      rcases hp with z | z
      · exact .inl ⟨p, xs, _, _, rfl, rfl, (mk_le W H1).seq (e1.seq z), atI_nat hx, q _ _ (List.getElem_mem hj) S1 e1⟩
      · exact .inr (.inl ⟨p, xs, _, _, rfl, rfl, seqT (mk_le W H1) (seqT e1 z), atI_nat hx, q _ _ (List.getElem_mem hj) S1 e1⟩)
    · refine ⟨_, z.length, rfl, ⟨Nat.le_trans hl (by decide), rfl⟩, ?_⟩
      walk_at "mw"
      refine ⟨W, n, _, rfl, S, hn, by omega, by omega, fun k H1 k0 k1 S1 e1 => ?_⟩
      obtain ⟨j, rfl⟩ : ∃ j : Nat, k = j := ⟨k.toNat, by omega⟩
      have hj : j < z.cps.toList.length := by
        have : z.length = z.cps.toList.length := by rw [Array.length_toList] <;> rfl
        omega
      have hx : z.cps.toList[j]? = some z.cps.toList[j] := List.getElem?_eq_getElem hj
      exact .inr (.inr ⟨z, _, _, rfl, rfl, Nat.le_trans hl (by decide), atI_nat hx, q _ _ (List.getElem_mem hj) S1 e1⟩)
/-- the items in some order, a new list -/
def spShuf (K : PySem.W.Frag) : Sp := fun vs H Q _ => ∃ (W : Wd) (n : Nat) (p : Addr) (xs : List V), vs = [.ref W.d, .ref p] ∧ StOk W n H ∧ n + xs.length ≤ most ∧ xs.length ≤ 100000 ∧ (SqL K (mk W H) p xs ∨ SqT K (mk W H) p xs) ∧ (∀ x ∈ xs, Good K (mk W H) x) ∧
  ∀ (l : Addr) (ys : List V) (H' : Hp), ys.Perm xs → H l = none → mk W H' l = some (.lst ys) → StOk W (n + xs.length) H' → Same (mk W H) (mk W H') → Q (.ref l) H'
theorem perm_erase {α : Type} : ∀ {ls : List α} {j : Nat} {x : α}, ls[j]? = some x → (x :: ls.eraseIdx j).Perm ls
  | [], j, x, h => by simp at h
  | a :: ls, 0, x, h => by
    have e : a = x := Option.some.inj h
    subst e
    exact List.Perm.refl _
  | a :: ls, j + 1, x, h => by
    have ih := perm_erase (ls := ls) (j := j) (x := x) h
    exact (List.Perm.swap a x _).trans (ih.cons a)
theorem perm_snoc {xs ls ys : List V} {j : Nat} {x : V} (h : (ys ++ ls).Perm xs) (hx : ls[j]? = some x) : ((ys ++ [x]) ++ ls.eraseIdx j).Perm xs := by
  refine List.Perm.trans ?_ h
  rw [List.append_assoc]
  refine List.Perm.append_left ys ?_
  show (x :: ls.eraseIdx j).Perm ls
  exact perm_erase hx
theorem ok_shuf {f : Addr} {fd : FuncData} (F : Fun K "_law_shuffled" "_law_shuffled" s__law_shuffled f fd) (T : Blt mg) (G__law_take : Def P w K mg base "_law_take" 2 ["state", "size"] spTake) : FnG P w K mg base 3 f fd ["state", "some"] (spShuf K) := by
  refine fnG F sc__law_shuffled (fun vs H Q E h => ?_) (fun cdv A outer s H vs Q E hr h => ?_)
  · obtain ⟨W, n, p, xs, rfl, _⟩ := h
    rfl
  · obtain ⟨W, n, p, xs, rfl, S, hn, hl, hp, hg, q⟩ := h
    have hu64 := hu64 hr.r
    refine ⟨_, pss_cons (ps_par (i := 2) (j := 3) rfl sc__law_shuffled.nd rfl rfl (by decide) rfl rfl (pa_cons (pe_callTy call_list_of (by rfl) T.list (by decide +kernel) (pa_cons (pv 1) pa_nil)) (pa_cons (pe_lst pa_nil) pa_nil)) (by rfl))
        (pss_cons (ps_while PassesOwn.never (pt_cmpR (op_neD hu64) (pv 2) (pe_lst pa_nil) (nomark _))
        (pss_one (ps_expr (pe_bm PySem.F.plainAttrs_list PySem.F.slot_list_append PySem.F.type_list_append mt_append (pv 3) (pa_cons (pe_bm PySem.F.plainAttrs_list PySem.F.slot_list_pop PySem.F.type_list_pop mt_popAt (pv 2) (pa_cons (pe_go G__law_take hr (pa_cons (pv 0) (pa_cons (pe_callB call_len_seq (by rfl) T.len (by decide +kernel) (pa_cons (pv 2) pa_nil)) pa_nil))) pa_nil)) pa_nil)))))
        (pss_one (ps_ret (pv 3)))), ?_⟩
    have hp' : SqL K H p xs ∨ SqT K H p xs := hp.elim (fun z => .inl ((mk_le W H).seq z)) (fun z => .inr (seqT (mk_le W H) z))
    walk_at "mw"
    refine ⟨p, xs, rfl, hp', fun a na => ?_⟩
    generalize ea : upd H a _ = H1
    obtain ⟨S1, e1, fa, ma⟩ := new_at S na ea
    walk_at "mw"
    refine ⟨by show 0 ≤ sizeLine; decide, fun l nl => ?_⟩
    generalize el : upd H1 l _ = H2
    obtain ⟨S2, e2, fl, ml⟩ := new_at S1 nl el
    walk_at "mw"
    have nal : a ≠ l := ne_of_none fa ml
    refine ⟨fun m σ H' => ∃ ls ys : List V, m = ls.length ∧ σ = [some (.ref W.d), some (.ref p), some (.ref a), some (.ref l)] ∧ (ys ++ ls).Perm xs ∧ mk W H' a = some (.lst ls) ∧ mk W H' l = some (.lst ys) ∧ StOk W (n + ys.length) H' ∧ Same (mk W H) (mk W H'),
      ⟨xs.length, xs, [], rfl, rfl, List.Perm.refl _, e2 _ _ fa, fl, S2, e1.trans e2⟩, ?_⟩
    rintro m σ H' ⟨ls, ys, rfl, rfl, hperm, ga, gl, S3, e3⟩
    have hlen : ys.length + ls.length = xs.length := by
      have := hperm.length_eq
      rwa [List.length_append] at this
    walk_at "mw"
    refine ⟨by show 0 ≤ sizeLine; decide, fun o no => ?_⟩
    generalize eo : upd H' o _ = H4
    obtain ⟨S4, e4, fo, mo⟩ := new_at S3 no eo
    have gl2 : ∀ x ∈ ls, Good K H4 x := fun x hx => (hg x (hperm.mem_iff.mp (List.mem_append_right _ hx))).same ((e3.trans e4).trans (mk_le W H4))
    refine ne_nil (.inl (.inl (mk_le W H4 _ _ (e4 _ _ ga)))) (.inl (.inl (mk_le W H4 _ _ fo))) gl2 ?_
    walk_at "mw"
    cases ls with
    | nil =>
      refine iteF ?_
      walk_at "mw"
      rw [List.append_nil] at hperm
      have hy : ys.length = xs.length := by simpa using hlen
      refine q l ys H4 hperm ?_ (e4 _ _ gl) (hy ▸ S4) (e3.trans e4)
      rw [← ea] at nl
      exact (same_upd na).free nl
    | cons x0 ls0 =>
      generalize els : x0 :: ls0 = ls at hperm ga hlen gl2
      have hpos : 0 < ls.length := by rw [← els]; exact Nat.succ_pos _
      rw [show (!(ls : List V).isEmpty) = true by rw [← els] <;> rfl]
      refine iteT ?_
      refine ⟨fun σ H' => ∃ m', m' < ls.length ∧ ∃ ls' ys' : List V, m' = ls'.length ∧ σ = [some (.ref W.d), some (.ref p), some (.ref a), some (.ref l)] ∧ (ys' ++ ls').Perm xs ∧ mk W H' a = some (.lst ls') ∧ mk W H' l = some (.lst ys') ∧ StOk W (n + ys'.length) H' ∧ Same (mk W H) (mk W H'),
        fun σ' H' z => z, ?_⟩
      walk_at "mw"
      refine ⟨.inl ⟨rfl, _, .inl (.inl (mk_le W H4 _ _ (e4 _ _ gl)))⟩, ?_⟩
      walk_at "mw"
      refine ⟨.inl ⟨rfl, _, .inl (.inl (mk_le W H4 _ _ (e4 _ _ ga)))⟩, ?_⟩
      walk_at "mw"
      refine ⟨a, ls, rfl, .inl (.inl (.inl (mk_le W H4 _ _ (e4 _ _ ga)))), ?_⟩
      walk_at "mw"
      refine ⟨W, _, _, rfl, S4, by omega, by omega, by omega, fun k H5 k0 k1 S5 e5 => ?_⟩
      obtain ⟨j, rfl⟩ : ∃ j : Nat, k = j := ⟨k.toNat, by omega⟩
      have hj : j < ls.length := by omega
      have hx : ls[j]? = some ls[j] := List.getElem?_eq_getElem hj
      have e6 := (e3.trans e4).trans e5
      have ga5 : mk W H5 a = some (.lst ls) := e5 _ _ (e4 _ _ ga)
      have gl5 : mk W H5 l = some (.lst ys) := e5 _ _ (e4 _ _ gl)
      refine ⟨a, ls, (j : Int), j, ls[j], rfl, rfl, mk_le W H5 _ _ ga5, by omega, by omega, seqIndex_of (by omega) (by omega), hx, ?_⟩
      generalize eu : upd H5 a _ = H6
      obtain ⟨S6, fa6, o6⟩ := own_at S5 ga5 eu
      have gl6 : mk W H6 l = some (.lst ys) := o6 _ _ nal.symm gl5
      refine ⟨l, ys, ls[j], rfl, rfl, mk_le W H6 _ _ gl6, Nat.lt_of_le_of_lt (show ys.length ≤ 100000 by omega) (by decide), ?_⟩
      generalize ev : upd H6 l _ = H7
      obtain ⟨S7, fl7, o7⟩ := own_at S6 gl6 ev
      have nl0 : mk W H l = none := mk_none (by
        rw [← ea] at nl
        exact (same_upd na).free nl)
      refine ⟨_, ?_, ls.eraseIdx j, ys ++ [ls[j]], rfl, rfl, perm_snoc hperm hx, o7 _ _ nal fa6, fl7, ?_, (wd W).keep o7 nl0 ((wd W).keep o6 ma e6)⟩
      · rw [List.length_eraseIdx_of_lt hj]
        omega
      · rw [List.length_append]
        exact S7
end
end Mw
namespace Mw
open PySem PySem.Spec PyProof.Rows L2
/-! ### the program's own defs -/
def isIntD : PyData → Bool
  | .int _ => true
  | .bool _ => true
  | _ => false
def isBoolD : PyData → Bool
  | .bool _ => true
  | _ => false
def isStrD : PyData → Bool
  | .str _ => true
  | _ => false
def isTupD : PyData → Bool
  | .tuple _ => true
  | _ => false
def isLstD : PyData → Bool
  | .list _ => true
  | .tuple _ => true
  | _ => false
theorem kit_int (d : PyData) : kitB (tyD d) "int" = some (isIntD d) := by cases d <;> (simp only [tyD, isIntD]; decide +kernel)
theorem kit_bool (d : PyData) : kitB (tyD d) "bool" = some (isBoolD d) := by cases d <;> (simp only [tyD, isBoolD]; decide +kernel)
theorem kit_str (d : PyData) : kitB (tyD d) "str" = some (isStrD d) := by cases d <;> (simp only [tyD, isStrD]; decide +kernel)
theorem kit_tup (d : PyData) : kitB (tyD d) "tuple" = some (isTupD d) := by cases d <;> (simp only [tyD, isTupD]; decide +kernel)
theorem kit_seq (d : PyData) : isiAny d ["list", "tuple"] = some (isLstD d) := by cases d <;> (simp only [isiAny, tyD, isLstD]; decide +kernel)
theorem pick1 {ds : List PyData} (h : ds.length = 1) : ∃ d, ds = [d] := match ds, h with | [d], _ => ⟨d, rfl⟩
theorem pick2 {ds : List PyData} (h : ds.length = 2) : ∃ d e, ds = [d, e] := match ds, h with | [d, e], _ => ⟨d, e, rfl⟩
theorem dd1 {K : PySem.W.Frag} {H : Hp} {vs : List V} {d : PyData} (h : DdAll K H vs [d]) : ∃ v, vs = [v] ∧ Dd K H v d := by
  cases h with
  | cons a b =>
    cases b
    exact ⟨_, rfl, a⟩
theorem dd2 {K : PySem.W.Frag} {H : Hp} {vs : List V} {d e : PyData} (h : DdAll K H vs [d, e]) : ∃ v w, vs = [v, w] ∧ Dd K H v d ∧ Dd K H w e := by
  cases h with
  | cons a b =>
    obtain ⟨w, rfl, hw⟩ := dd1 b
    exact ⟨_, _, rfl, a, hw⟩
def leaf0 : PyData → Bool
  | .int i => decide (0 ≤ i)
  | _ => false
def isCountD (d : PyData) : Bool := isIntD d && (!isBoolD d && leaf0 d)
theorem isCount_int (i : Int) : isCountD (.int i) = decide (0 ≤ i) := by simp [isCountD, isIntD, isBoolD, leaf0]
def f1 (g : PyData → PyData) : List PyData → PyData
  | [d] => g d
  | _ => .none
def f2 (g : PyData → PyData → PyData) : List PyData → PyData
  | [d, e] => g d e
  | _ => .none
section
variable {P : Program} {w : World} {K : PySem.W.Frag} {mg : Str → Option Value} {base : Heap}
abbrev spCount (K : PySem.W.Frag) : Sp := spF K 1 (fun _ => True) (f1 fun d => .bool (isCountD d))
theorem ok_is_count {f : Addr} {fd : FuncData} (F : Fun K "is_count" "is_count" s_is_count f fd) (T : Blt mg) : FnG P w K mg base 1 f fd ["thing"] (spCount K) := by
  refine fnG F sc_is_count (fun vs H Q E h => spF_len h) (fun cdv A outer s H vs Q E hr h => ?_)
  obtain ⟨U, n, ds, a, hd, hl, _, q⟩ := spF_go h
  obtain ⟨d, rfl⟩ := pick1 hl
  obtain ⟨v, rfl, hv⟩ := dd1 hd
  refine ⟨_, pss_one (ps_ret (pe_and (pe_callB call_isi (by rfl) T.isinstance (by decide +kernel) (pa_cons (pv 0) (pa_cons (pe_bltn (v := .ty "int") (by rfl) T.int (by decide +kernel) rfl) pa_nil))) (pe_and (pe_not (pe_callB call_isi (by rfl) T.isinstance (by decide +kernel) (pa_cons (pv 0) (pa_cons (pe_bltn (v := .ty "bool") (by rfl) T.bool (by decide +kernel) rfl) pa_nil)))) (pe_one (pe_cmpR op_ge (pv 0) pe_int (nomark _)))))), ?_⟩
  refine s1_ret (d := .bool (isCountD d)) a (e1_and (e1_isi (e1_var rfl hv) (kit_int d)) fun h1 => e1_and (e1_not (e1_isi (e1_var rfl hv) (kit_bool d))) fun h2 => ?_) (fun v H1 a1 s1 d1 => q v H1 a1.ok s1 d1)
  cases d <;> first | exact Bool.noConfusion h1 | exact Bool.noConfusion h2 | exact e1_op (e1_var rfl hv) e1_int r1_cmp
/-! a field -/
def lettersS : Str := "abcdefghijklmnopqrstuvwxyz"
def barredD : List PyData := [.str "pass", .str "drop", .str "mark", .str "not"]
def signIn (z : Str) : PyData → Bool
  | .str x => (match x.cps.toList with | [c] => decide (c ∈ z.cps.toList) | _ => false)
  | _ => false
theorem r1_inSign {U : Wo} {z : Str} {c : Nat} : R1 K U (fun x y H Q => ∃ (c : Nat) (z : Str), x = .str ⟨#[c]⟩ ∧ y = .str z ∧ Q (.bl (decide (c ∈ z.cps.toList))) H) (.str ⟨#[c]⟩) (.str z) (.bool (decide (c ∈ z.cps.toList))) := fun n H x y ok h1 h2 Q q => by
  cases h1
  cases h2
  exact ⟨c, z, rfl, rfl, q _ H ok (Same.refl _) (.bl _)⟩
def lenOk (x : Str) : Bool := decide ((1 : Int) ≤ x.length) && decide ((x.length : Int) ≤ 6)
def isFieldD : PyData → Bool
  | .str x => lenOk x && ((!barredD.any fun e => PyData.eqv e (.str x)) && ((signs x).map (signIn lettersS)).all id)
  | _ => false
/-- texts of at most 100,000 signs -/
def shortD : PyData → Bool
  | .str x => decide (x.length ≤ 100000)
  | _ => true
structure Cst (K : PySem.W.Frag) (mg : Str → Option Value) : Prop where
  letters : ∃ t, mg "LETTERS" = some (.str lettersS t)
  most_letters : ∃ t, mg "MOST_LETTERS" = some (.int 6 t)
  most_fields : ∃ t, mg "MOST_FIELDS" = some (.int 3 t)
  most_numbers : ∃ t, mg "MOST_NUMBERS" = some (.int 8 t)
  barred : ∃ (b : Addr) (o : Obj) (its : Array Value) (n : Nat), mg "BARRED" = some (.ref b) ∧ K.lookup b = some o ∧ o.cls = .type "tuple" ∧ o.data = .seq its n ∧ its.size ≤ sizeLine ∧ Vals (barredD.map valD) its.toList
theorem flats {H : Hp} : ∀ {ds : List PyData}, ds.all flatD = true → DdAll K H (ds.map valD) ds
  | [], _ => .nil
  | d :: ds, f => by
    rw [List.all_cons, Bool.and_eq_true] at f
    refine .cons ?_ (flats f.2)
    cases d <;> first | exact Bool.noConfusion f.1 | constructor
abbrev spField (K : PySem.W.Frag) : Sp := spF K 1 (fun ds => ds.all shortD = true) (f1 fun d => .bool (isFieldD d))
theorem ok_is_field {f : Addr} {fd : FuncData} (F : Fun K "is_field" "is_field" s_is_field f fd) (T : Blt mg) (C : Cst K mg) : FnG P w K mg base 1 f fd ["thing"] (spField K) := by
  refine fnG F sc_is_field (fun vs H Q E h => spF_len h) (fun cdv A outer s H vs Q E hr h => ?_)
  obtain ⟨U, n, ds, a, hd, hl, hp, q⟩ := spF_go h
  obtain ⟨d, rfl⟩ := pick1 hl
  obtain ⟨v, rfl, hv⟩ := dd1 hd
  obtain ⟨tl, gl⟩ := C.letters
  obtain ⟨tm, gm⟩ := C.most_letters
  obtain ⟨b, o, its, m, gb, kb, ob, od, oz, ov⟩ := C.barred
  have hb : ∀ H, Dd K H (.ref b) (.tuple barredD) := fun H => .tup (.inr ⟨o, its, m, kb, ob, od, oz, ov⟩) (flats (by decide))
  refine ⟨_, pss_cons (ps_if (PW.pt (pw_or (pt_not (pt_val (pe_callB call_isi (by rfl) T.isinstance (by decide +kernel) (pa_cons (pv 0) (pa_cons (pe_bltn (v := .ty "str") (by rfl) T.str (by decide +kernel) rfl) pa_nil))))) (pw_or1 (pt_not (pt_chain op_le op_le pe_int (pe_callB call_len (by rfl) T.len (by decide +kernel) (pa_cons (pv 0) pa_nil)) (pe_glob (v := .int 6) rfl gm ⟨_, rfl⟩))))))
        (pss_one (ps_ret pe_bl))
        pss_nil)
        (pss_one (ps_ret (pe_and (pe_cmpR op_notIn_seq (pv 0) (pe_glob (v := .ref b) rfl gb rfl) rfl) (pe_one (pe_callB (cr_all rfl) (by rfl) T.all (by decide +kernel) (pa_cons (pe_lc (own := [("letter", 1)]) (g := gName 1) (tt := tYes) rfl sc_is_field.nd (pi_str (pv 0)) (blkOk_by (N := ["thing", "letter"]) (sc := defScope s_is_field) (by decide +kernel)) (fun _ _ _ _ _ => (pg_name (i := 1) sc_is_field.nd rfl (.inl rfl))) (fun _ _ _ _ _ => pts_nil) (fun _ _ _ _ _ => (pe_cmpR op_in_sign (pv 1) (pe_glob (v := .str lettersS) rfl gl ⟨_, rfl⟩) rfl))) pa_nil)))))), ?_⟩
  have out : ∀ (b : Bool), b = isFieldD d → ∀ v H', At U n (U.view H) H' → Same (U.view H) (U.view H') → Dd K (U.view H') v (.bool b) → Q v H' := fun b e v H1 a1 s1 d1 => q v H1 a1.ok s1 (by
    show Dd K (U.view H1) v (.bool (isFieldD d))
    rw [← e]
    exact d1)
  cases hs : isStrD d with
  | false =>
    refine s1_if (b := true) a (t1_or (a := true) (t1_not (b := false) (t1_val (e1_isi (e1_var rfl hv) ((kit_str d).trans (congrArg some hs))))) (b := true) fun z => Bool.noConfusion z) (fun _ H1 a1 s1 => ?_) (fun z => Bool.noConfusion z)
    refine s1_ret (d := .bool false) a1 e1_bl fun v H2 a2 s2 d2 => out false ?_ v H2 a2 (s1.trans s2) d2
    cases d <;> first | exact Bool.noConfusion hs | rfl
  | true =>
    obtain ⟨x, rfl⟩ : ∃ x, d = .str x := by
      cases d <;> first | exact Bool.noConfusion hs | exact ⟨_, rfl⟩
    have hz : x.length ≤ 100000 := by simpa [shortD] using hp
    refine s1_if (b := !lenOk x) a (T1.is (t1_or (a := false) (t1_not (b := true) (t1_val (e1_isi (e1_var rfl hv) (kit_str _)))) (b := !lenOk x) fun _ => t1_not (t1_chain e1_int (e1_len (e1_var rfl hv) rfl hz) r1_cmp (fun _ => e1_int) fun _ => r1_cmp)) rfl) (fun z H1 a1 s1 => ?_) (fun z H1 a1 s1 => ?_)
    · refine s1_ret (d := .bool false) a1 e1_bl fun v H2 a2 s2 d2 => out false ?_ v H2 a2 (s1.trans s2) d2
      have z' : lenOk x = false := by simpa using z
      show false = (lenOk x && _)
      rw [z', Bool.false_and]
    · have z' : lenOk x = true := by simpa using z
      refine s1_ret (d := .bool ((!barredD.any fun e => PyData.eqv e (.str x)) && ((signs x).map (signIn lettersS)).all id)) a1 (e1_and (e1_op (e1_var rfl hv) (e1_kt hb) (r1_inT (neg := true) rfl (by decide))) fun _ => ?_) fun v H2 a2 s2 d2 => out _ ?_ v H2 a2 (s1.trans s2) d2
      · refine e1_all (E1.is (e1_lc (p := fun _ => true) (f := fun d => .bool (signIn lettersS d)) (i1_str (e1_var rfl hv)) (by unfold signs; rw [List.length_map, Array.length_toList]; exact hz) (fun _ => rfl) (fun U' M' v d e hm hd => t1_yes) (fun U' M' v d e hm _ hd => ?_)) ?_)
        · obtain ⟨c, hc, rfl⟩ := List.mem_map.mp hm
          exact e1_op (e1_var rfl hd) e1_str r1_inSign
        · rw [List.filter_eq_self.mpr (fun _ _ => rfl), List.map_map] <;> rfl
      · show _ = (lenOk x && _)
        rw [z', Bool.true_and]
end
end Mw
/-! ### set(list or tuple of ints and texts), and how many it holds -/
namespace Mw
open PySem PySem.Spec PyProof.Rows L2
def hasK (ks : List Key) (k : Key) : Bool := ks.any fun x => decide (x = k)
theorem hasK_iff {ks : List Key} {k : Key} : hasK ks k = true ↔ k ∈ ks := by
  unfold hasK
  rw [List.any_eq_true]
  constructor
  · rintro ⟨x, hx, e⟩
    rw [← of_decide_eq_true e]
    exact hx
  · intro h
    exact ⟨k, h, decide_eq_true rfl⟩
/-- how many there are among the first i -/
def kinds (ks : List Key) : Nat → Nat
  | 0 => 0
  | i + 1 => if hasK (ks.take i) (ks.getD i (.inl 0)) = true then kinds ks i else kinds ks i + 1
theorem kinds_le (ks : List Key) : ∀ i, kinds ks i ≤ i
  | 0 => Nat.le_refl 0
  | i + 1 => by
    have h := kinds_le ks i
    unfold kinds
    split <;> omega
theorem take_more {ks : List Key} {i : Nat} (h : i < ks.length) : ks.take (i + 1) = ks.take i ++ [ks.getD i (.inl 0)] := by
  rw [List.take_add_one, List.getD_eq_getElem?_getD, List.getElem?_eq_getElem h] <;> rfl
theorem kinds_all {ks : List Key} (h : ks.Nodup) : ∀ i, i ≤ ks.length → kinds ks i = i
  | 0, _ => rfl
  | i + 1, hi => by
    have ih := kinds_all h i (by omega)
    have no : hasK (ks.take i) (ks.getD i (.inl 0)) = false := by
      cases e : hasK (ks.take i) (ks.getD i (.inl 0)) with
      | false => rfl
      | true =>
        have m := hasK_iff.mp e
        have h2 : (ks.take (i + 1)).Nodup := h.sublist (List.take_sublist _ _)
        rw [take_more (by omega)] at h2
        have h3 := (List.nodup_append.mp h2).2.2 _ m _ (List.mem_singleton.mpr rfl)
        exact absurd rfl h3
    unfold kinds
    rw [no, if_neg Bool.false_ne_true, ih]
theorem all_kinds {ks : List Key} : ∀ i, i ≤ ks.length → kinds ks i = i → (ks.take i).Nodup
  | 0, _, _ => by simp
  | i + 1, hi, h => by
    have hl := kinds_le ks i
    unfold kinds at h
    split at h
    · omega
    · rename_i no
      have ih := all_kinds (ks := ks) i (by omega) (by omega)
      rw [take_more (by omega), List.nodup_append]
      refine ⟨ih, by simp, fun a ha b hb e => ?_⟩
      rw [List.mem_singleton.mp hb] at e
      rw [e] at ha
      exact no (hasK_iff.mpr ha)
/-- the keys that values are -/
def KeysAre (prog : Program) (w : World) (vs : List Value) (ks : List Key) : Prop := Paired (fun v k => (mixKind prog w).is k v = true) vs ks
theorem keys_of {prog : Program} {w : World} : ∀ {ks : List Key} {us : List Value}, Vals (ks.map kV) us → KeysAre prog w us ks
  | [], _, .nil => .nil
  | .inl i :: ks, _, .cons r t => by
    obtain ⟨k, rfl⟩ := r
    exact .cons (mixKind_int _ _ i k) (keys_of t)
  | .inr x :: ks, _, .cons r t => by
    obtain ⟨k, rfl⟩ := r
    exact .cons (mixKind_str _ _ x k) (keys_of t)
theorem KeysAre.len {prog : Program} {w : World} {vs : List Value} {ks : List Key} (h : KeysAre prog w vs ks) : vs.length = ks.length := Paired.length h
theorem KeysAre.at {prog : Program} {w : World} : ∀ {vs : List Value} {ks : List Key}, KeysAre prog w vs ks → ∀ (i : Nat) (v : Value), vs[i]? = some v → (mixKind prog w).is (ks.getD i (.inl 0)) v = true
  | _, _, .nil, i, v, h => by simp at h
  | _, _, .cons r t, 0, v, h => by
    cases h
    exact r
  | _, _, .cons r t, i + 1, v, h => KeysAre.at t i v (by simpa using h)
theorem scan_key {prog : Program} {w : World} {k : Key} {v : Value} (h : (mixKind prog w).is k v = true) : v.scannable = true := by
  rcases keyIs_shape (show keyIs k v = true from h) with ⟨i, t, _, rfl⟩ | ⟨x, t, _, rfl⟩ <;> rfl
section
variable {prog : Program} {w : World} {A : Around} {R : Result → Shared → Prop} {I : Addr} {fp wr : List Addr} {G : Array GenState → Array GenState → Prop} {n : Nat} {P : Nat → Value → Prop} {St : Nat → Shared → Prop}
/-- the set at S holds the first i of ks -/
abbrev Held (prog : Program) (w : World) (ks : List Key) (S : Addr) (i : Nat) (h : Heap) : Prop := h.SetOf (mixKind prog w) S (hasK (ks.take i)) (kinds ks i)
theorem Held.to {ks : List Key} {S : Addr} {i : Nat} {h h' : Heap} (x : Held prog w ks S i h) (e : ∀ o, h.get? S = some o → h'.get? S = some o) : Held prog w ks S i h' := by
  obtain ⟨o, es, ep, t, ho, rest⟩ := x
  exact ⟨o, es, ep, t, e o ho, rest⟩
theorem held_is {h : Heap} {a : Addr} {S S' : Key → Bool} {m m' : Nat} (x : h.SetOf (mixKind prog w) a S m) (e : ∀ k, S k = S' k) (em : m = m') : h.SetOf (mixKind prog w) a S' m' := by
  obtain rfl : S = S' := funext e
  obtain rfl := em
  exact x
theorem fill_loop {ks : List Key} (W : WalksS prog w A.in1 I fp wr G n P St) (S : Addr) (out : S ∉ fp) (size : n = ks.length) (are : ∀ i v, P i v → (mixKind prog w).is (ks.getD i (.inl 0)) v = true) (room : n + 1 < scanBound) :
    ∀ (left i : Nat) (s : Shared), i + left = n → St i s → Held prog w ks S i s.heap →
      (∀ s', Moved (S :: wr) G s s' → Held prog w ks S n s'.heap → R (.ok (.ret .none)) s') → codeAny (model prog w) A (.builtin "set.update.loop" ⟨[.ref S, .ref I], []⟩) R s := by
  have notW : S ∉ wr := fun z => out (W.sub _ z)
  have wide : ∀ b ∈ wr, b ∈ S :: wr := fun b z => List.mem_cons_of_mem _ z
  intro left
  induction left with
  | zero =>
    intro i s hi st held fin
    obtain rfl : i = n := by omega
    refine codeAny_builtin PyProof.Rows.F.entry_set_update_loop ?_
    rw [Around.under_plainId PyProof.Rows.F.plain_set_update_loop _]
    change wpAny _ A.in1 (pyNext (.ref I) >>= _) _ _ s
    refine wpAny_bind (W.done s _ _ st ?_)
    intro s' moved
    change wpAny _ A.in1 (ret Value.none) _ _ s'
    exact wpAny_pure (fin s' (moved.mono wide) (held.to fun o e => moved.heap S o notW e))
  | succ left again =>
    intro i s hi st held fin
    have below : i < n := by omega
    refine codeAny_builtin PyProof.Rows.F.entry_set_update_loop ?_
    rw [Around.under_plainId PyProof.Rows.F.plain_set_update_loop _]
    change wpAny _ A.in1 (pyNext (.ref I) >>= _) _ _ s
    refine wpAny_bind (W.item i s _ _ below st ?_)
    intro v s1 pv st1 moved
    have isK := are i v pv
    have held1 : Held prog w ks S i s1.heap := held.to fun o e => moved.heap S o notW e
    change wpAny _ A.in1 (holding [v] (setAdd S v) >>= _) _ _ s1
    refine wpAny_bind (wpAny_holding ?_)
    unfold setAdd
    refine wpAny_holding (wpAny_bind ((mixKind prog w).pyHash isK ?_))
    refine wpAny_setAddHashed_of (s := { s1 with toks := s1.toks + 1 }) isK (scan_key isK) held1 (by have := kinds_le ks i; omega) ?_
    intro h2 only added
    have held2 : Held prog w ks S (i + 1) h2 := by
      refine held_is added ?_ ?_
      · intro k
        rw [take_more (show i < ks.length by omega)]
        unfold hasK
        rw [List.any_append]
        congr 1
        show decide (k = ks.getD i (.inl 0)) = (decide (ks.getD i (.inl 0) = k) || false)
        rw [Bool.or_false]
        exact decide_eq_decide.mpr ⟨fun z => z.symm, fun z => z.symm⟩
      · show _ = kinds ks (i + 1)
        rw [kinds]
    refine wpAny_pure ⟨plainId_quiet PyProof.Rows.F.plain_set_update_loop _, again (i + 1) _ (by omega) (W.frame _ s1 _ _ st1 (Nat.le_succ _) ?_) held2 ?_⟩
    · intro b hb o e
      rw [only.2 b (fun z => out (by rw [← z]; exact hb))]
      exact e
    · intro s3 moved3 held3
      refine fin s3 (Moved.trans W.gtrans ((moved.mono wide).then_heap (Nat.le_succ _) ?_) moved3) held3
      intro b o hb e
      rw [only.2 b (fun z => hb (by rw [z]; exact List.mem_cons_self))]
      exact e
end
/-- a new set -/
def set0 (led : Bool) : Obj := { cls := .type "set", dict := none, data := .set #[] 0 (.fresh 0 0 led) }
section
variable {prog : Program} {w : World} {A : Around} {E : Value → Shared → Prop} {s : Shared}
theorem set_seq {l : Addr} {items : Array Value} {ks : List Key} {Q : Value → Shared → Prop} (calm : A.handled = none) (seq : s.heap.IsList l items ∨ s.heap.IsTuple l items) (are : KeysAre prog w items.toList ks) (room : ks.length + 1 < scanBound)
    (out : ∀ (h' : Heap) (tk : Nat), Held prog w ks s.heap.objs.size ks.length h' → (∀ b o, b < s.heap.objs.size → s.heap.get? b = some o → h'.get? b = some o) → Q (.ref s.heap.objs.size) { s with heap := h', toks := tk }) :
    wpAny (model prog w) A (call (.type "set") [.ref l]) Q E s := by
  have size : items.size = ks.length := by rw [← are.len, Array.length_toList]
  obtain ⟨c, tl, hmro⟩ := PySem.F.called_set.mro
  have made := PySem.F.called_set.made
  have sub := PySem.F.called_set.sub
  have noType := PySem.F.called_set.notType
  have creates := PySem.F.called_set.canCreate
  have checked := PySem.F.typeCall_set_1 (.ref l)
  refine wpAny_call (codeAny_of_tree ?_)
  change wpAny _ _ (callAny (.type "set") _) _ _ _
  refine wpAny_pure ⟨Code.quiet_builtin _ (by decide +kernel), codeAny_builtin PySem.F.entry_type_call ?_⟩
  rw [Around.under_plain (weight_type_call_type "set" [.ref l] []) rfl]
  repeat (any_goals (first | assumption | wp_step))
  refine codeAny_mono (code_set_new_1 (.ref l) (E := E) (Q₁ := fun obj s₁ => ∃ led : Bool, obj = .ref s.heap.objs.size ∧ s₁ = { s with heap := s.heap.push (set0 led) }) (fun led => ⟨led, rfl, rfl⟩)) ?_
  intro r s₁ hr
  cases r with
  | error e => exact hr
  | ok fl =>
    cases fl with
    | next => exact hr.elim
    | brk => exact hr.elim
    | cont => exact hr.elim
    | ret obj =>
      obtain ⟨led, rfl, rfl⟩ := hr
      have atS : (s.heap.push (set0 led)).get? s.heap.objs.size = some (set0 led) := Heap.get?_push_size _ rfl
      have isSet : Shared.TypeIs { s with heap := s.heap.push (set0 led) } (.ref s.heap.objs.size) "set" := ⟨_, atS, rfl⟩
      have found := PySem.F.called_set.init.lookup
      have bound := PySem.F.called_set.init.bind (.ref s.heap.objs.size)
      repeat (any_goals (first | assumption | wp_step))
      refine codeAny_mono (codeAny_call_builtin (R := wants (fun r s₂ => r = .none ∧ ∃ h' tk, s₂ = { s with heap := h', toks := tk } ∧ Held prog w ks s.heap.objs.size ks.length h' ∧ (∀ b o, b < s.heap.objs.size → s.heap.get? b = some o → h'.get? b = some o)) E)
        PySem.F.called_set.init.plain PySem.F.entry_set_init (check_set_init_1 isSet ?_)) ?_
      · have before : s.heap.objs.size ≠ (s.heap.push (set0 led)).objs.size := by
          rw [Heap.size_push]
          exact Nat.ne_of_lt (Nat.lt_succ_self _)
        have calm3 : A.in1.in1.in1.handled = none := by simp [calm]
        have start : ∀ it : Obj, Held prog w ks s.heap.objs.size 0 ((s.heap.push (set0 led)).push it) := by
          intro it
          exact ⟨set0 led, #[], 0, .fresh 0 0 led, Heap.get?_push_of_some _ atS, ⟨rfl, rfl, rfl⟩, rfl, fun e he => by simp at he, fun k => by simp [hasK], by unfold scanBound; decide, by rfl, rfl⟩
        have close : ∀ (it : Obj) (s' : Shared), Moved (s.heap.objs.size :: [(s.heap.push (set0 led)).objs.size]) (fun a b => b = a) { s with heap := (s.heap.push (set0 led)).push it } s' → Held prog w ks s.heap.objs.size items.size s'.heap →
            ∃ h' tk, s' = { s with heap := h', toks := tk } ∧ Held prog w ks s.heap.objs.size ks.length h' ∧ (∀ b o, b < s.heap.objs.size → s.heap.get? b = some o → h'.get? b = some o) := by
          intro it s' moved held
          rw [size] at held
          obtain ⟨h', g', d', tk', os'⟩ := s'
          have eg : g' = s.gens := moved.gens
          have ed : d' = s.drawn := moved.drawn
          have eo : os' = s.os := moved.os
          subst eg ed eo
          refine ⟨h', tk', rfl, held, ?_⟩
          intro b o hb e
          refine moved.heap b o ?_ (Heap.get?_push_of_some _ (Heap.get?_push_of_some _ e))
          intro z
          have sz : (s.heap.push (set0 led)).objs.size = s.heap.objs.size + 1 := Heap.size_push _ _
          rcases List.mem_cons.mp z with z | z
          · exact Nat.ne_of_lt hb z
          · have z' := List.mem_singleton.mp z
            rw [sz] at z'
            exact Nat.ne_of_lt (Nat.lt_succ_of_lt hb) z'
        have val : ∀ (i : Nat) (v : Value), items[i]? = some v → (mixKind prog w).is (ks.getD i (.inl 0)) v = true := by
          intro i v hv
          exact are.at i v (by rw [Array.getElem?_toList]; exact hv)
        rcases seq with list | tuple
        · obtain ⟨⟨ocls, odict, odata, oslots⟩, hol, hcl, nl, hdl⟩ := list
          simp only at hcl hdl
          subst hcl hdl
          have low : l < s.heap.objs.size := Heap.lt_size hol
          have lAt := Heap.get?_push_of_some (set0 led) hol
          have lIs : (s.heap.push (set0 led)).IsList l items := ⟨_, lAt, rfl, nl, rfl⟩
          have no1 := PySem.F.sub_list_set
          have no2 := PySem.F.sub_list_frozenset
          have no3 : (Value.type "list" == Value.type "dict") = false := by decide
          have apart : l ≠ (s.heap.push (set0 led)).objs.size := by
            rw [Heap.size_push]
            exact Nat.ne_of_lt (Nat.lt_succ_of_lt low)
          have outside : s.heap.objs.size ∉ [(s.heap.push (set0 led)).objs.size, l] := by
            intro z
            rcases List.mem_cons.mp z with z | z
            · exact before z
            · exact Nat.ne_of_gt low (List.mem_singleton.mp z)
          unfold Builtin.«set.__init__» noKeywords Builtin.Frozenset.updateFrom
          generalize hPI : pyIter = PI
          wp_walk
          subst hPI
          refine wpAny_pyIter_list lIs (wpAny_bind (wpAny_runValue ?_))
          refine fill_loop ((Walks.list calm3 _ l apart items).toS) s.heap.objs.size outside size val (by rw [size]; exact room) items.size 0 _ (by omega) ⟨⟨_, Heap.get?_push_size _ rfl, rfl, rfl⟩, (lIs.push _)⟩ (start _) ?_
          intro s' moved held
          obtain ⟨h', tk, rfl, x, y⟩ := close _ s' moved held
          change wpAny _ _ _ _ _ _
          refine wpAny_pure ?_
          change wpAny _ _ (ret Value.none) _ _ _
          exact wpAny_pure ⟨rfl, h', tk, rfl, x, y⟩
        · obtain ⟨⟨ocls, odict, odata, oslots⟩, hol, hcl, nl, hdl⟩ := tuple
          simp only at hcl hdl
          subst hcl hdl
          have low : l < s.heap.objs.size := Heap.lt_size hol
          have lAt := Heap.get?_push_of_some (set0 led) hol
          have lIs : (s.heap.push (set0 led)).IsTuple l items := ⟨_, lAt, rfl, nl, rfl⟩
          have no1 := PySem.F.sub_tuple_set
          have no2 := PySem.F.sub_tuple_frozenset
          have no3 : (Value.type "tuple" == Value.type "dict") = false := by decide
          have apart : l ≠ (s.heap.push (set0 led)).objs.size := by
            rw [Heap.size_push]
            exact Nat.ne_of_lt (Nat.lt_succ_of_lt low)
          have outside : s.heap.objs.size ∉ [(s.heap.push (set0 led)).objs.size, l] := by
            intro z
            rcases List.mem_cons.mp z with z | z
            · exact before z
            · exact Nat.ne_of_gt low (List.mem_singleton.mp z)
          unfold Builtin.«set.__init__» noKeywords Builtin.Frozenset.updateFrom
          generalize hPI : pyIter = PI
          wp_walk
          subst hPI
          refine wpAny_pyIter_tuple lIs (wpAny_bind (wpAny_runValue ?_))
          refine fill_loop ((Walks.tuple calm3 _ l apart items).toS) s.heap.objs.size outside size val (by rw [size]; exact room) items.size 0 _ (by omega) ⟨⟨_, Heap.get?_push_size _ rfl, rfl, rfl⟩, (lIs.push _)⟩ (start _) ?_
          intro s' moved held
          obtain ⟨h', tk, rfl, x, y⟩ := close _ s' moved held
          change wpAny _ _ _ _ _ _
          refine wpAny_pure ?_
          change wpAny _ _ (ret Value.none) _ _ _
          exact wpAny_pure ⟨rfl, h', tk, rfl, x, y⟩
      · intro r₂ s₂ hr₂
        cases r₂ with
        | error e => exact hr₂
        | ok fl₂ =>
          cases fl₂ with
          | next => exact hr₂.elim
          | brk => exact hr₂.elim
          | cont => exact hr₂.elim
          | ret r =>
            obtain ⟨rfl, h', tk, rfl, held, keep⟩ := hr₂
            repeat (any_goals (first | assumption | wp_step))
            exact out _ _ held keep
end
end Mw
namespace Mw
open PySem PySem.Spec PyProof.Rows L2
def tLenK (K : PySem.W.Frag) (ta : TE) : TE := fun σ H Q => ta σ H fun x H1 => ∃ (l : Addr) (ks : List Key), x = .ref l ∧ (SqL K H1 l (ks.map kV) ∨ SqT K H1 l (ks.map kV)) ∧ ks.length ≤ 1000 ∧ Q (.int (kinds ks ks.length : Nat)) H1
theorem pe_lenK {X : Cx} {a : Expr} {ta : TE} {p p2 q pos : Pos} (ha : PE X a ta) (m1 : X.mg "len" = none) (m2 : X.mg "set" = none) (g1 : Gl X "len" := by rfl) (g2 : Gl X "set" := by rfl) (hc : X.calm = true := by rfl)
    (na : starEach [a] X.env = (false, eval a X.env) :: starEach [] X.env := by rfl) : PE X (.Call (.Name "len" p) [.Call (.Name "set" p2) [a] [] q] [] pos) (tLenK X.K ta) := by
  constructor
  intro pins s σ H Q I h
  refine Call_ (ld_blt I g1 m1 boot_len ?_)
  refine PyProof.Rows.callWith_builtin1 (PyProof.Rows.args_cons ?_ rfl) rfl rfl
  refine Call_ (ld_blt I g2 m2 boot_set ?_)
  refine PyProof.Rows.callWith_type1 (PyProof.Rows.args_cons (thn (ha.run pins s σ H _ I h) ?_) na) na rfl
  rintro v s1 ⟨x, H1, I1, r1, l, ks, rfl, seq, size, q1⟩
  refine PyProof.Rows.args_nil ?_
  cases r1
  have small : ks.length + 1 < scanBound := by unfold scanBound; omega
  have fin : ∀ (h' : Heap) (tk : Nat), Held X.prog X.w ks s1.heap.objs.size ks.length h' → (∀ b o, b < s1.heap.objs.size → s1.heap.get? b = some o → h'.get? b = some o) →
      wpAny (model X.prog X.w) X.A (spliced (backTo pos (starEach [] X.env))) (fun vs s₂ => wpAny (model X.prog X.w) X.A (call (.builtin "len") (Value.ref s1.heap.objs.size :: vs)) (EP X pins σ Q) X.xe s₂) X.xe { s1 with heap := h', toks := tk } := by
    rintro h' tk ⟨o, es, ep, t, ho, hx, hd, _, _, _, hf, hn⟩ keep
    refine PyProof.Rows.args_nil ?_
    have I2 : Inv X pins σ H1 { s1 with heap := h', toks := tk } := I1.kept fun b o e => keep b o (Heap.lt_size e) e
    have := kinds_le ks ks.length
    exact call_len_set ho hx hd hf (by rw [hn]; omega) ⟨.int (kinds ks ks.length : Nat), H1, I2.tok _, ⟨_, by rw [hn]⟩, q1⟩
  rcases seq with seq | seq
  · obtain ⟨its, r, pl, _⟩ := I1.list seq
    exact set_seq (ks := ks) (I1.ok.hd hc) (.inl pl.isList) (by simpa using keys_of r) small fin
  · obtain ⟨its, r, pl, _⟩ := I1.tuple seq
    exact set_seq (ks := ks) (I1.ok.hd hc) (.inr pl) (by simpa using keys_of r) small fin
def keyD : Key → PyData
  | .inl i => .int i
  | .inr x => .str x
theorem key_vals {K : PySem.W.Frag} {H : Hp} : ∀ {ks : List Key} {vs : List V}, DdAll K H vs (ks.map keyD) → vs = ks.map kV
  | [], _, .nil => rfl
  | .inl i :: ks, _, .cons h a => by
    cases h
    rw [List.map_cons, ← key_vals a] <;> rfl
  | .inr x :: ks, _, .cons h a => by
    cases h
    rw [List.map_cons, ← key_vals a] <;> rfl
theorem e1_lenK {K : PySem.W.Frag} {U : Wo} {M : Hp} {σ : L2.St} {te : TE} {d : PyData} {ks : List Key} (h : E1 K U M te σ d) (hd : d = .list (ks.map keyD) ∨ d = .tuple (ks.map keyD)) (z : ks.length ≤ 1000) :
    E1 K U M (tLenK K te) σ (.int (kinds ks ks.length : Nat)) := fun n H a Q q => h n H a _ fun v H1 ok1 s1 d1 => by
  rcases hd with rfl | rfl
  · cases d1 with
    | lst hq ha =>
      have e := key_vals ha
      subst e
      exact ⟨_, ks, rfl, .inl (.inl (.inl (U.le _ _ _ hq))), z, q _ H1 ok1 s1 (.int _)⟩
  · cases d1 with
    | tup hq ha =>
      have e := key_vals ha
      subst e
      exact ⟨_, ks, rfl, .inr (seqT (U.le _) hq), z, q _ H1 ok1 s1 (.int _)⟩
end Mw
/-! ### sorted of a tuple of texts -/
namespace Mw
open PySem PySem.Spec PyProof PyProof.Rows L2
section
variable {prog : Program} {w : World} {A : Around} {E : Value → Shared → Prop} {s : Shared}
theorem collect_tupM {l : Addr} {vs : List Value} {Q : List Value → Shared → Prop} (hl : s.heap.IsTuple l vs.toArray)
    (h : Q vs { s with heap := (s.heap.push (seqObj "list" #[] 0)).update s.heap.objs.size (Obj.mapSeq (· ++ vs.toArray)) }) (small : vs.length ≤ sizeLine) :
    wpAny (model prog w) A (collect (.ref l)) Q E s := by
  obtain ⟨o, ho, hc, n, hd⟩ := id hl
  unfold collect
  refine wpAny_bind (wpAny_runValue ( codeAny_builtin entry_proto_collect' ?_))
  show wpAny _ _ ( do again (.builtin "list.__iadd__" ⟨[← newList [], .ref l], []⟩)) _ _ s
  refine wpAny_bind (wpAny_newList ( wpAny_pure ⟨Code.quiet_builtin _ (by decide +kernel), codeAny_builtin entry_list_iadd' ?_⟩))
  show wpAny _ _ ( Builtin.List.listExtendWith (.ref s.heap.objs.size) (.ref l) (.ref s.heap.objs.size)) _ _ { s with heap := s.heap.push (seqObj "list" #[] 0) }
  unfold Builtin.List.listExtendWith
  have keep : (s.heap.push (seqObj "list" #[] 0)).get? l = some o := Heap.get?_push_of_some _ ho
  refine wpAny_bind (wpAny_typeOf (T := "tuple") ⟨o, keep, hc⟩ ?_)
  have yes : (Value.type "tuple" == Value.type "tuple") = true := by rfl
  rw [if_pos (by rw [yes]; simp)]
  refine wpAny_bind (listItems_at keep hd ?_)
  refine wpAny_bind (listItems_at (xs := #[]) (n := 0) ( Heap.get?_push_size _ rfl) rfl ?_)
  rw [if_neg (by simp)]
  refine wpAny_bind (listUpdate_at (xs := #[]) (n := 0) ( Heap.get?_push_size _ rfl) rfl ?_ (Nat.zero_le _) (by show (#[] ++ vs.toArray).size ≤ sizeLine + 1; simp only [Array.size_append, List.size_toArray, List.length_nil]; omega))
  refine wpAny_pure ?_
  show wpAny (model prog w) A (do
      let z ← load s.heap.objs.size
      match z.data with
      | .seq xs _ => pure xs.toList
      | _ => unsupported "internal:collect") Q E { s with heap := (s.heap.push (seqObj "list" #[] 0)).update s.heap.objs.size (Obj.mapSeq (· ++ vs.toArray)) }
  refine wpAny_bind (wpAny_load (get?_update_seq ( Heap.get?_push_size _ rfl) _) ?_)
  show wpAny _ _ ( pure ((#[] : Array Value) ++ vs.toArray).toList) Q E _
  rw [show ((#[] : Array Value) ++ vs.toArray).toList = vs by simp]
  exact wpAny_pure h
theorem sorted_tupM {l : Addr} {vs : List Value} {ss : List Str} {Q : Value → Shared → Prop} (hl : s.heap.IsTuple l vs.toArray) (hS : StrsAre vs ss) (h64 : vs.length < 64)
    (h : ∀ (out : Array Value) (ys : List Str), StrsAre out.toList ys → ys.Perm ss → sortedS ys = true → Q (.ref (s.heap.objs.size + 1)) { s with heap := sortedAll s.heap vs out }) :
    wpAny (model prog w) A (call (.builtin "sorted") [.ref l]) Q E s := by
  refine Calls.call_function_entry kind_sorted plain_sorted entry_sorted ( args_sorted1 _) ?_
  unfold Builtin.«sorted»
  refine wpAny_bind (m := checkCount "sorted" 1 1 _) ( wpAny_pure ?_)
  refine wpAny_bind (collect_tupM hl ?_ (by have : (64 : Nat) ≤ sizeLine := (by decide); omega))
  refine wpAny_bind (wpAny_newList ?_)
  have size : ((s.heap.push (seqObj "list" #[] 0)).update s.heap.objs.size (Obj.mapSeq (· ++ vs.toArray))).objs.size = s.heap.objs.size + 1 := by
    rw [Heap.size_update, size_push']
  have here : (((s.heap.push (seqObj "list" #[] 0)).update s.heap.objs.size (Obj.mapSeq (· ++ vs.toArray))).push (seqObj "list" vs.toArray 0)).get? (s.heap.objs.size + 1) = some (seqObj "list" vs.toArray 0) := by
    rw [← size]
    exact Heap.get?_push_size _ rfl
  show wpAny _ _ _ _ _ { s with heap := ((s.heap.push (seqObj "list" #[] 0)).update s.heap.objs.size (Obj.mapSeq (· ++ vs.toArray))).push (seqObj "list" vs.toArray 0) }
  rw [size]
  refine wpAny_bind (wpAny_holding (wpAny_call_entry slot_list_sort ⟨_, here, rfl⟩ entry_list_sort (list_sort_treeK strKind_oneLt here hS.keysOf (fun v1 v2 rest e => keyKind_strs (by rw [← e]; exact hS)) h64 fun st' a1 a2 => ⟨_, rfl, ?_⟩) ( args_list_sort _)))
  obtain ⟨ys, h1, h2, h3⟩ := sorted_out_str hS a1 a2
  exact wpAny_pure ⟨_, rfl, h _ ys h1 h2 h3⟩
end
/-- sorted of a list or a tuple of texts -/
def rSortedB (K : PySem.W.Frag) : List V → Hp → VK → Prop := fun vs H Q => ∃ (a : Addr) (xs : List Str), vs = [V.ref a] ∧ (SqL K H a (xs.map V.str) ∨ SqT K H a (xs.map V.str)) ∧ xs.length < 64 ∧
  ∀ (ys : List Str) (p : Addr), ys.Perm xs → H p = none → Q (.ref p) (upd H p (.lst (ys.map V.str)))
theorem cr_sortedB {X : Cx} : CallR X (.builtin "sorted") (rSortedB X.K) := by
  intro pins s σ H vs us Q I r h
  obtain ⟨a, xs, rfl, hs, h64, q⟩ := h
  rcases hs with hs | hs
  · exact cr_sortedS pins s σ H _ us Q I r ⟨a, xs, rfl, hs, h64, fun ys p h1 _ h3 => q ys p h1 h3⟩
  · obtain ⟨its, rv, hl, _⟩ := I.tuple hs
    rw [Vals.ref1 r]
    have len := rv.length
    rw [List.length_map] at len
    refine sorted_tupM hl rv.strs (by rw [← len]; exact h64) fun out ys h1 h2 h3 => ?_
    obtain ⟨ep, he⟩ := sortedAll_at s.heap its out
    have fits : (ys.map V.str).length ≤ sizeLine := by
      rw [List.length_map, h2.length_eq]
      exact small64 h64
    exact ⟨.ref _, upd H (s.heap.objs.size + 1) (.lst (ys.map V.str)), I.laid (t' := s.toks) (fun _ _ => sortedAll_old) (Nat.le_succ _) ⟨fits, out.toList, ep, vals_of_strs h1, he⟩, rfl, q ys _ h2 (I.hok.fresh (Nat.le_succ _))⟩
end Mw
/-! ### what an expression that may draw yields: some data -/
namespace Mw
open PySem PySem.Spec PyProof.Rows L2
/-! what may be shown -/
def okd (k m : Nat) (d : PyData) : Bool := d.showable && (d.leavesShort 200 && (decide (d.depth ≤ k) && decide (d.weight ≤ m)))
theorem okd_iff {k m : Nat} {d : PyData} : okd k m d = true ↔ d.showable = true ∧ d.leavesShort 200 = true ∧ d.depth ≤ k ∧ d.weight ≤ m := by simp [okd]
theorem okd_more {k m k' m' : Nat} {d : PyData} (h : okd k m d = true) (hk : k ≤ k') (hm : m ≤ m') : okd k' m' d = true := by
  rw [okd_iff] at h ⊢
  exact ⟨h.1, h.2.1, Nat.le_trans h.2.2.1 hk, Nat.le_trans h.2.2.2 hm⟩
theorem okd_fit {k m : Nat} {d : PyData} (h : okd k m d = true) (hk : k ≤ 60) (hm : m ≤ 50000) : Fit d := by
  rw [okd_iff] at h
  refine ⟨h.1, Nat.le_trans h.2.2.1 hk, ?_⟩
  have a := PyData.shown_le 200 (by decide) d h.2.1
  have b : (12000000 : Nat) ≤ sizeLine := by decide
  omega
theorem okd_all {k m : Nat} : ∀ {ds : List PyData}, (∀ d ∈ ds, okd k m d = true) → PyData.showableAll ds = true ∧ PyData.leavesShortAll 200 ds = true ∧ PyData.depthAll ds ≤ k ∧ PyData.weightAll ds ≤ ds.length * (m + 1)
  | [], _ => ⟨rfl, rfl, Nat.zero_le _, Nat.zero_le _⟩
  | d :: ds, h => by
    obtain ⟨a1, a2, a3, a4⟩ := okd_iff.mp (h d (List.mem_cons_self ..))
    obtain ⟨b1, b2, b3, b4⟩ := okd_all (ds := ds) fun e he => h e (List.mem_cons_of_mem _ he)
    refine ⟨?_, ?_, ?_, ?_⟩
    · simp [PyData.showableAll, a1, b1]
    · simp [PyData.leavesShortAll, a2, b2]
    · simp only [PyData.depthAll]
      omega
    · simp only [PyData.weightAll, List.length_cons]
      rw [Nat.add_mul]
      omega
theorem okd_list {k m L : Nat} {ds : List PyData} (h : ∀ d ∈ ds, okd k m d = true) (l : ds.length ≤ L) : okd (k + 1) (L * (m + 1)) (.list ds) = true ∧ okd (k + 1) (L * (m + 1)) (.tuple ds) = true := by
  obtain ⟨b1, b2, b3, b4⟩ := okd_all h
  have l2 := Nat.mul_le_mul_right (m + 1) l
  constructor
  · rw [okd_iff]
    simp only [PyData.showable, PyData.leavesShort, PyData.depth, PyData.weight]
    exact ⟨b1, b2, by omega, by omega⟩
  · rw [okd_iff]
    simp only [PyData.showable, PyData.leavesShort, PyData.depth, PyData.weight]
    exact ⟨b1, b2, by omega, by omega⟩
theorem okd_int {i : Int} (h : i.natAbs < 10 ^ 12) : okd 0 64 (.int i) = true := by
  have h2 : i.natAbs.log2 < 64 ∨ i.natAbs = 0 := by
    by_cases z : i.natAbs = 0
    · exact .inr z
    · refine .inl ((Nat.log2_lt z).mpr (Nat.lt_trans h (by decide)))
  have h3 : i.natAbs.log2 < 64 := by
    rcases h2 with z | z
    · exact z
    · rw [z]
      decide
  rw [okd_iff]
  refine ⟨?_, ?_, Nat.le_refl _, ?_⟩
  · simp only [PyData.showable, decide_eq_true_eq]
    omega
  · have := PyData.shown_int_le h
    simp only [PyData.leavesShort, decide_eq_true_eq]
    omega
  · simp only [PyData.weight]
    split <;> omega
theorem okd_str {x : Str} {m : Nat} (h : x.cps.size ≤ m) (c : ∀ c ∈ x.cps.toList, c < 16 ^ 8) : okd 0 m (.str x) = true := by
  rw [okd_iff]
  refine ⟨rfl, ?_, Nat.le_refl _, h⟩
  simp only [PyData.leavesShort, List.all_eq_true, decide_eq_true_eq]
  exact c
/-- the world of draws, some objects out of sight perhaps -/
structure Of (U : Wo) (W : Wd) : Prop where
  st : ∀ {n H}, U.ok n H → StOk W n H
  go : ∀ {n n' H H'}, U.ok n H → StOk W n' H' → Same (mk W H) (mk W H') → U.ok n' H' ∧ Same (U.view H) (U.view H')
  le : ∀ H, Same (U.view H) (mk W H)
  new : ∀ {n H H' l x}, U.ok n H → H l = none → mk W H' l = some x → U.view H' l = some x
theorem of_wd (W : Wd) : Of (wd W) W := ⟨fun h => h, fun _ h e => ⟨h, e⟩, fun H => Same.refl _, fun _ _ h => h⟩
theorem Of.hide {U : Wo} {W : Wd} (o : Of U W) (D : Addr) (x : HO) : Of (U.hide D x) W where
  st := fun h => o.st h.1
  go := fun h s e => by
    obtain ⟨a, b⟩ := o.go h.1 s e
    exact ⟨⟨a, b _ _ h.2⟩, hide_same b⟩
  le := fun H => (hide_le D _).trans (o.le H)
  new := fun h nl e => hide_at (o.new h.1 nl e) (fun z => by
    rw [z, U.le _ _ _ h.2] at nl
    cases nl)
section
variable {K : PySem.W.Frag} {U : Wo} {W : Wd} {M : Hp} {σ : L2.St} {n k k1 k2 m : Nat} {te ta tb : TE} {t : TA} {tt tu : TT} {R S : PyData → Prop}
def E3 (K : PySem.W.Frag) (U : Wo) (M : Hp) (k : Nat) (te : TE) (σ : L2.St) (R : PyData → Prop) : Prop :=
  ∀ n H, At U n M H → n + k ≤ most → ∀ Q : VK, (∀ v d H', R d → U.ok (n + k) H' → Same (U.view H) (U.view H') → Dd K (U.view H') v d → Q v H') → te σ H Q
def A3 (K : PySem.W.Frag) (U : Wo) (M : Hp) (k : Nat) (t : TA) (σ : L2.St) (R : List PyData → Prop) : Prop :=
  ∀ n H, At U n M H → n + k ≤ most → ∀ Q : List V → Hp → Prop, (∀ vs ds H', R ds → U.ok (n + k) H' → Same (U.view H) (U.view H') → DdAll K (U.view H') vs ds → Q vs H') → t σ H Q
def T3 (U : Wo) (M : Hp) (k : Nat) (tt : TT) (σ : L2.St) : Prop := ∀ n H, At U n M H → n + k ≤ most → ∀ Q : Bool → Hp → Prop, (∀ b H', U.ok (n + k) H' → Same (U.view H) (U.view H') → Q b H') → tt σ H Q
def I3 (K : PySem.W.Frag) (U : Wo) (M : Hp) (k : Nat) (wi : TI) (σ : L2.St) (P : List PyData → Prop) : Prop := ∀ n H, At U n M H → n + k ≤ most → ∀ R : It → Hp → Prop, (∀ J ds H', P ds → U.ok (n + k) H' → Same (U.view H) (U.view H') →
  Walk J ds.length (fun H2 => Same (U.view H') (U.view H2)) (fun i H2 v H3 => H3 = H2 ∧ ∃ d, ds[i]? = some d ∧ Dd K (U.view H') v d) → R J H') → wi σ H R
theorem E1.e3 {d : PyData} (h : E1 K U M te σ d) (r : R d) : E3 K U M 0 te σ R := fun n H a _ Q q => h n H a Q fun v H' ok s dd => q v d H' r ok s dd
theorem E3.more (h : E3 K U M k te σ R) (l : k ≤ m) : E3 K U M m te σ R := fun n H a hn Q q => h n H a (by omega) Q fun v d H' r ok s dd => q v d H' r (U.mono ok (by omega)) s dd
theorem E3.weak (h : E3 K U M k te σ R) (l : ∀ d, R d → S d) : E3 K U M k te σ S := fun n H a hn Q q => h n H a hn Q fun v d H' r ok s dd => q v d H' (l d r) ok s dd
theorem I1.i3 {wi : TI} {ds : List PyData} {P : List PyData → Prop} (h : I1 K U M wi σ ds) (p : P ds) : I3 K U M 0 wi σ P := fun n H a _ Q q => h n H a Q fun J H' ok s w => q J ds H' p ok s w
def Each (m : Nat) (R : PyData → Prop) (ds : List PyData) : Prop := ds.length = m ∧ ∀ d ∈ ds, R d
theorem a3_nil : A3 K U M 0 tNil σ (Each 0 R) := fun n H a _ Q q => q [] [] H ⟨rfl, fun _ h => nomatch h⟩ a.ok (Same.refl _) .nil
theorem a3_cons (h : E3 K U M k1 te σ R) (hs : A3 K U M k2 t σ (Each m R)) : A3 K U M (k1 + k2) (tCons te t) σ (Each (m + 1) R) := fun n H a hn Q q =>
  h n H a (by omega) _ fun v d H1 r1 ok1 s1 d1 => hs (n + k1) H1 ⟨ok1, a.up.trans s1⟩ (by omega) _ fun vs ds H2 r2 ok2 s2 d2 => q _ (d :: ds) H2
    ⟨congrArg Nat.succ r2.1, fun e he => (List.mem_cons.mp he).elim (fun z => z ▸ r1) (r2.2 e)⟩ (by rw [← Nat.add_assoc]; exact ok2) (s1.trans s2) (.cons (d1.same s2) d2)
theorem e3_lst (h : A3 K U M k t σ (Each m R)) (z : m ≤ 100000) : E3 K U M k (tLst t) σ (fun d => ∃ ds, d = .list ds ∧ Each m R ds) := fun n H a hn Q q =>
  h n H a hn _ fun vs ds H1 r ok1 s1 d1 => ⟨thousand (by rw [d1.len, r.1]; exact z), fun p np => by
    obtain ⟨ok2, s2, f2, _⟩ := U.new (o := .lst vs) ok1 np rfl
    exact q _ _ _ ⟨ds, rfl, r⟩ ok2 (s1.trans s2) (.lst f2 (d1.same s2))⟩
theorem DdAll.mem {H : Hp} {vs : List V} {ds : List PyData} {v : V} (h : DdAll K H vs ds) (hv : v ∈ vs) : ∃ d, d ∈ ds ∧ Dd K H v d := by
  obtain ⟨i, hi⟩ := List.mem_iff_getElem?.mp hv
  obtain ⟨d, hd, dd⟩ := h.at hi
  exact ⟨d, List.mem_of_getElem? hd, dd⟩
theorem DdAll.perm {H : Hp} {ys xs : List V} (p : ys.Perm xs) : ∀ {ds : List PyData}, DdAll K H xs ds → ∃ es, es.Perm ds ∧ DdAll K H ys es := by
  induction p with
  | nil => exact fun h => ⟨_, List.Perm.refl _, h⟩
  | cons x p ih =>
    intro ds h
    cases h with
    | cons a b =>
      obtain ⟨es, e1, e2⟩ := ih b
      exact ⟨_, e1.cons _, .cons a e2⟩
  | swap x y l =>
    intro ds h
    cases h with
    | cons a b =>
      cases b with
      | cons c e => exact ⟨_, List.Perm.swap _ _ _, .cons c (.cons a e)⟩
  | trans p1 p2 ih1 ih2 =>
    intro ds h
    obtain ⟨es, e1, e2⟩ := ih2 h
    obtain ⟨fs, f1, f2⟩ := ih1 e2
    exact ⟨fs, f1.trans e1, f2⟩
/-! operators -/
theorem e3_op1 {r : R2} {d2 : PyData} {f : PyData → PyData} (ha : E3 K U M k ta σ R) (hb : E1 K U M tb σ d2) (hr : ∀ d, R d → R1 K U r d d2 (f d)) : E3 K U M k (tOp r ta tb) σ (fun e => ∃ d, R d ∧ e = f d) := fun n H a hn Q q =>
  ha n H a hn _ fun x d H1 r1 ok1 s1 d1 => hb (n + k) H1 ⟨ok1, a.up.trans s1⟩ _ fun y H2 ok2 s2 e2 => hr d r1 (n + k) H2 x y ok2 (d1.same s2) e2 Q fun v H3 ok3 s3 e3 => q v _ H3 ⟨d, r1, rfl⟩ ok3 ((s1.trans s2).trans s3) e3
theorem e3_op2 {r : R2} {d1 : PyData} {f : PyData → PyData} (ha : E1 K U M ta σ d1) (hb : E3 K U M k tb σ R) (hr : ∀ d, R d → R1 K U r d1 d (f d)) : E3 K U M k (tOp r ta tb) σ (fun e => ∃ d, R d ∧ e = f d) := fun n H a hn Q q =>
  ha n H a _ fun x H1 ok1 s1 e1 => hb n H1 (a.step ok1 s1) hn _ fun y d H2 r1 ok2 s2 e2 => hr d r1 (n + k) H2 x y ok2 (e1.same s2) e2 Q fun v H3 ok3 s3 e3 => q v _ H3 ⟨d, r1, rfl⟩ ok3 ((s1.trans s2).trans s3) e3
theorem t3_test (h : E3 K U M k te σ (fun d => ∃ b, d = .bool b)) : T3 U M k (tTest te) σ := fun n H a hn Q q => h n H a hn _ fun v d H1 r ok1 s1 d1 => by
  obtain ⟨b, rfl⟩ := r
  cases d1
  exact ⟨b, rfl, q b H1 ok1 s1⟩
theorem T1.t3 {b : Bool} (h : T1 U M tt σ b) : T3 U M 0 tt σ := fun n H a _ Q q => h n H a Q fun H' ok s => q b H' ok s
/-! draws -/
variable {i : Nat}
theorem e3_take {z : Int} (o : Of U W) (hv : σ[i]? = some (some (.ref W.d))) (h : E1 K U M ta σ (.int z)) (z0 : 0 < z) (z1 : z ≤ 18446744073709551616) : E3 K U M 1 (tGo spTake (tCons (tVar i) (tCons ta tNil))) σ (fun d => ∃ j : Int, d = .int j ∧ 0 ≤ j ∧ j < z) := fun n H a hn Q q =>
  ⟨_, hv, h n H a _ fun v H1 ok1 s1 d1 => by
    cases d1
    refine ⟨W, n, z, rfl, o.st ok1, by omega, z0, z1, fun j H2 k0 k1 S2 e2 => ?_⟩
    obtain ⟨ok2, s2⟩ := o.go ok1 S2 e2
    exact q _ _ _ ⟨j, rfl, k0, k1⟩ ok2 (s1.trans s2) (.int j)⟩
theorem e3_pick (o : Of U W) (hv : σ[i]? = some (some (.ref W.d))) (h : E3 K U M k ta σ (fun d => ∃ ds, (d = .list ds ∨ d = .tuple ds) ∧ ds ≠ [] ∧ ds.length ≤ 100000 ∧ ∀ e ∈ ds, R e)) : E3 K U M (k + 1) (tGo (spPick K) (tCons (tVar i) (tCons ta tNil))) σ R := fun n H a hn Q q =>
  ⟨_, hv, h n H a (by omega) _ fun v d H1 r ok1 s1 d1 => by
    obtain ⟨ds, e, ne, hl, hr⟩ := r
    have out : ∀ (xs : List V), DdAll K (U.view H1) xs ds → ∀ (x : V) (H2 : Hp), x ∈ xs → StOk W (n + k + 1) H2 → Same (mk W H1) (mk W H2) → Q x H2 := fun xs ha x H2 hx S2 e2 => by
      obtain ⟨ok2, s2⟩ := o.go ok1 S2 e2
      obtain ⟨f, hf, df⟩ := ha.mem hx
      exact q x f H2 (hr f hf) ok2 (s1.trans s2) (df.same s2)
    have nn : ∀ (xs : List V), DdAll K (U.view H1) xs ds → xs ≠ [] ∧ xs.length ≤ 100000 := fun xs ha => by
      refine ⟨fun z => ?_, by rw [ha.len]; exact hl⟩
      subst z
      cases ha
      exact ne rfl
    rcases e with rfl | rfl
    · cases d1 with
      | lst hq ha => exact ⟨W, n + k, _, rfl, o.st ok1, by omega, .inl ⟨_, _, rfl, .inl (.inl (.inl (o.le _ _ _ hq))), (nn _ ha).1, (nn _ ha).2, out _ ha⟩⟩
    · cases d1 with
      | tup hq ha => exact ⟨W, n + k, _, rfl, o.st ok1, by omega, .inl ⟨_, _, rfl, .inr (seqT (o.le _) hq), (nn _ ha).1, (nn _ ha).2, out _ ha⟩⟩⟩
theorem e3_picks {x : Str} (o : Of U W) (hv : σ[i]? = some (some (.ref W.d))) (h : E1 K U M ta σ (.str x)) (h0 : 0 < x.length) (h1 : x.length ≤ 100000) : E3 K U M 1 (tGo (spPick K) (tCons (tVar i) (tCons ta tNil))) σ (fun d => ∃ c ∈ x.cps.toList, d = .str ⟨#[c]⟩) := fun n H a hn Q q =>
  ⟨_, hv, h n H a _ fun v H1 ok1 s1 d1 => by
    cases d1
    refine ⟨W, n, _, rfl, o.st ok1, by omega, .inr ⟨x, rfl, h0, h1, fun c H2 hc S2 e2 => ?_⟩⟩
    obtain ⟨ok2, s2⟩ := o.go ok1 S2 e2
    exact q _ _ _ ⟨c, hc, rfl⟩ ok2 (s1.trans s2) (.str _)⟩
theorem e3_shuf {d : PyData} {ds : List PyData} (o : Of U W) (hv : σ[i]? = some (some (.ref W.d))) (h : E1 K U M ta σ d) (hd : d = .list ds ∨ d = .tuple ds) (hl : ds.length ≤ 100000) (hg : ∀ e ∈ ds, e.canLay0 = true ∧ e.depth ≤ 60) :
    E3 K U M ds.length (tGo (spShuf K) (tCons (tVar i) (tCons ta tNil))) σ (fun d => ∃ es, d = .list es ∧ es.Perm ds) := fun n H a hn Q q =>
  ⟨_, hv, h n H a _ fun v H1 ok1 s1 d1 => by
    have gd : ∀ (xs : List V), DdAll K (U.view H1) xs ds → ∀ x ∈ xs, Good K (mk W H1) x := fun xs ha x hx => by
      obtain ⟨f, hf, df⟩ := ha.mem hx
      exact ⟨f, (df.same (o.le _)).dp (hg f hf).1, (hg f hf).1, (hg f hf).2⟩
    have out : ∀ (xs : List V), DdAll K (U.view H1) xs ds → ∀ (l : Addr) (ys : List V) (H2 : Hp), ys.Perm xs → H1 l = none → mk W H2 l = some (.lst ys) → StOk W (n + xs.length) H2 → Same (mk W H1) (mk W H2) → Q (.ref l) H2 := fun xs ha l ys H2 hp nl hl S2 e2 => by
      obtain ⟨ok2, s2⟩ := o.go ok1 S2 e2
      obtain ⟨es, p1, p2⟩ := DdAll.perm hp ha
      rw [ha.len] at ok2
      exact q _ _ _ ⟨es, rfl, p1⟩ ok2 (s1.trans s2) (.lst (o.new ok1 nl hl) (p2.same s2))
    rcases hd with rfl | rfl
    · cases d1 with
      | lst hq ha => exact ⟨W, n, _, _, rfl, o.st ok1, by rw [ha.len]; exact hn, by rw [ha.len]; exact hl, .inl (.inl (.inl (o.le _ _ _ hq))), gd _ ha, out _ ha⟩
    · cases d1 with
      | tup hq ha => exact ⟨W, n, _, _, rfl, o.st ok1, by rw [ha.len]; exact hn, by rw [ha.len]; exact hl, .inr (seqT (o.le _) hq), gd _ ha, out _ ha⟩⟩
/-! comprehensions, text -/
theorem i1_rng {j : Int} (h : E1 K U M te σ (.int j)) (j0 : -(2 ^ 62) ≤ j) (j1 : j < 2 ^ 62) : I1 K U M (iRng1 (tCons te tNil)) σ ((List.range j.toNat).map fun i => .int (Int.ofNat i)) := fun n H a R r => h n H a _ fun v H1 ok1 s1 d1 => by
  cases d1
  refine ⟨j, rfl, j0, j1, r _ H1 ok1 s1 ?_⟩
  rw [List.length_map, List.length_range]
  refine walk_range.mono (fun _ _ => trivial) (fun i H2 x H3 hi z y => ?_)
  obtain ⟨y1, y2⟩ := y
  refine ⟨y1, .int (Int.ofNat i), ?_, ?_⟩
  · rw [List.getElem?_map, List.getElem?_range hi] <;> rfl
  · rw [y2]
    show Dd K _ (.int (0 + (i : Int))) _
    rw [Int.zero_add]
    exact .int _
theorem i3_rng {P : Int → Prop} (h : E3 K U M k te σ (fun d => ∃ j : Int, d = .int j ∧ P j ∧ -(2 ^ 62) ≤ j ∧ j < 2 ^ 62)) : I3 K U M k (iRng1 (tCons te tNil)) σ (fun ds => ∃ j : Int, P j ∧ ds = (List.range j.toNat).map fun i => .int (Int.ofNat i)) := fun n H a hn R r => h n H a hn _ fun v d H1 r1 ok1 s1 d1 => by
  obtain ⟨j, rfl, pj, j0, j1⟩ := r1
  cases d1
  refine ⟨j, rfl, j0, j1, r _ _ H1 ⟨j, pj, rfl⟩ ok1 s1 ?_⟩
  rw [List.length_map, List.length_range]
  refine walk_range.mono (fun _ _ => trivial) (fun i H2 x H3 hi z y => ?_)
  obtain ⟨y1, y2⟩ := y
  refine ⟨y1, .int (Int.ofNat i), ?_, ?_⟩
  · rw [List.getElem?_map, List.getElem?_range hi] <;> rfl
  · rw [y2]
    show Dd K _ (.int (0 + (i : Int))) _
    rw [Int.zero_add]
    exact .int _
/-- [e for x in xs], e draws -/
theorem e3_lc {wi : TI} {j k0 m : Nat} {vs : List Nat} {P : List PyData → Prop} (o : Of U W) (h : I3 K U M k0 wi σ P) (z : ∀ ds, P ds → ds.length ≤ m) (z1 : m ≤ 100000) (hw : ∀ x, wipe ((wipe σ vs).set j (some x)) vs = wipe σ vs)
    (he : ∀ (U' : Wo) M' v, Of U' W → Same M M' → E3 K U' M' k te ((wipe σ vs).set j (some v)) R) :
    E3 K U M (k0 + m * k) (tLc wi (gName j) tYes te vs) σ (fun d => ∃ ds es, P ds ∧ d = .list es ∧ es.length = ds.length ∧ ∀ e ∈ es, R e) := fun n H a hn Q q => h n H a (by omega) _ fun J ds H1 p ok1 s1 w => by
  intro D nD
  have hm : ds.length ≤ m := z ds p
  have a1 : Same M (U.view H1) := a.up.trans s1
  have nD0 : U.view H1 D = none := by
    cases e : U.view H1 D with
    | none => rfl
    | some x =>
      rw [U.le _ _ _ e] at nD
      cases nD
  have off : Same (U.view H1) (hideV D (U.view H1)) := fun b x e => hide_at e (fun q => by
    rw [q, nD0] at e
    cases e)
  refine lc_it w (fun i H' => U.ok (n + k0 + i * k) H' ∧ Same (U.view H1) (hideV D (U.view H')) ∧ ∃ acc es, U.view H' D = some (.lst acc) ∧ DdAll K (hideV D (U.view H')) acc es ∧ es.length = i ∧ ∀ e ∈ es, R e) ?_ (fun i H' _ z => z.2.1.trans (hide_le _ _)) ?_ ?_
  · obtain ⟨ok2, s2, f2, _⟩ := U.new (o := .lst []) ok1 nD rfl
    exact ⟨by rw [Nat.zero_mul]; exact ok2, off.trans (hide_same s2), [], [], f2, .nil, rfl, fun _ h => nomatch h⟩
  · rintro i x H2 H3 hi ⟨ok2, s2, acc, es, f2, da, el, er⟩ ⟨rfl, d, hd, dx⟩
    have hik : i * k + k ≤ m * k := by
      have := Nat.mul_le_mul_right k (show i + 1 ≤ m by omega)
      rwa [Nat.add_mul, Nat.one_mul] at this
    refine ⟨hw x, ?_⟩
    refine rd_yes (L2.iteT ?_)
    refine he (U.hide D (.lst acc)) (U.view H1) x (o.hide D _) a1 _ H3 ⟨⟨ok2, f2⟩, s2⟩ (by omega) _ fun y e H5 r5 ok5 s5 dy => ?_
    have hl : acc.length ≤ 100000 := by
      rw [da.len, el]
      omega
    refine ⟨acc, U.le _ _ _ ok5.2, Nat.lt_of_le_of_lt hl (by decide), ?_⟩
    obtain ⟨ok6, f6, o6⟩ := U.own (o := .lst (acc ++ [y])) ok5.1 ok5.2 rfl
    have k6 : Same (hideV D (U.view H5)) (hideV D (U.view (upd H5 D (.lst (acc ++ [y]))))) := fun b u e => hide_at (o6 b u (hide_of e).1 (hide_of e).2) (hide_of e).1
    refine ⟨?_, (s2.trans s5).trans k6, _, es ++ [e], f6, (da.same (s5.trans k6)).app (.cons (dy.same k6) .nil), ?_, ?_⟩
    · rw [Nat.add_mul, Nat.one_mul, ← Nat.add_assoc]
      exact ok6
    · rw [List.length_append, el] <;> rfl
    · intro e' he'
      rcases List.mem_append.mp he' with h1 | h1
      · exact er e' h1
      · rw [List.mem_singleton.mp h1]
        exact r5
  · rintro H2 ⟨ok2, s2, acc, es, f2, da, el, er⟩
    have hik := Nat.mul_le_mul_right k hm
    exact q _ _ _ ⟨ds, es, p, rfl, el, er⟩ (U.mono ok2 (by omega)) (s1.trans (s2.trans (hide_le _ _))) (.lst f2 (da.same (hide_le _ _)))
/-! defs that draw -/
def spD (K : PySem.W.Frag) (m k : Nat) (pre : List PyData → Prop) (R : List PyData → PyData → Prop) : Sp := fun vs H Q _ => ∃ (U : Wo) (W : Wd) (n : Nat) (ws : List V) (ds : List PyData), Of U W ∧ vs = .ref W.d :: ws ∧ U.ok n H ∧ n + k ≤ most ∧
  DdAll K (U.view H) ws ds ∧ ds.length = m ∧ pre ds ∧ ∀ v d H', R ds d → U.ok (n + k) H' → Same (U.view H) (U.view H') → Dd K (U.view H') v d → Q v H'
theorem spD_len {pre : List PyData → Prop} {R : List PyData → PyData → Prop} {vs : List V} {H : Hp} {Q : VK} {E : XK} (h : spD K m k pre R vs H Q E) : vs.length = m + 1 := by
  obtain ⟨U, W, n, ws, ds, _, rfl, _, _, hd, e, _⟩ := h
  rw [List.length_cons, hd.len, e]
theorem e3_god {pre : List PyData → Prop} {R : List PyData → PyData → Prop} {ds : List PyData} (o : Of U W) (hv : σ[i]? = some (some (.ref W.d))) (h : A1 K U M t σ ds) (hm : ds.length = m) (hp : pre ds) : E3 K U M k (tGo (spD K m k pre R) (tCons (tVar i) t)) σ (R ds) := fun n H a hn Q q =>
  ⟨_, hv, h n H a _ fun vs H1 ok1 s1 d1 => ⟨U, W, n, vs, ds, o, rfl, ok1, hn, d1, hm, hp, fun v d H2 r ok2 s2 d2 => q v d H2 r ok2 (s1.trans s2) d2⟩⟩
/-- a def that draws nothing, one of several answers -/
def spR (K : PySem.W.Frag) (m : Nat) (pre : List PyData → Prop) (R : List PyData → PyData → Prop) : Sp := fun vs H Q _ => ∃ (U : Wo) (n : Nat) (ds : List PyData), U.ok n H ∧ n ≤ most ∧ DdAll K (U.view H) vs ds ∧ ds.length = m ∧ pre ds ∧
  ∀ v d H', R ds d → U.ok n H' → Same (U.view H) (U.view H') → Dd K (U.view H') v d → Q v H'
theorem spR_len {pre : List PyData → Prop} {R : List PyData → PyData → Prop} {vs : List V} {H : Hp} {Q : VK} {E : XK} (h : spR K m pre R vs H Q E) : vs.length = m := by
  obtain ⟨U, n, ds, _, _, hd, e, _⟩ := h
  rw [hd.len, e]
theorem e3_gor {pre : List PyData → Prop} {R : List PyData → PyData → Prop} {ds : List PyData} (h : A1 K U M t σ ds) (hm : ds.length = m) (hp : pre ds) : E3 K U M 0 (tGo (spR K m pre R) t) σ (R ds) := fun n H a hn Q q =>
  h n H a _ fun vs H1 ok1 s1 d1 => ⟨U, n, ds, ok1, by omega, d1, hm, hp, fun v d H2 r ok2 s2 d2 => q v d H2 r ok2 (s1.trans s2) d2⟩
/-! statements -/
variable {D : Ends} {H : Hp}
theorem s3_asg {i : Nat} (a : At U n M H) (hn : n + k ≤ most) (h : E3 K U M k te σ R) (q : ∀ v d H', R d → At U (n + k) (U.view H') H' → Same (U.view H) (U.view H') → Dd K (U.view H') v d → D.nx (σ.set i (some v)) H') : tAsg te (gName i) D σ H :=
  h n H a hn _ fun v d H1 r ok1 s1 d1 => q v d H1 r (At.here ok1) s1 d1
theorem s3_ret (a : At U n M H) (hn : n + k ≤ most) (h : E3 K U M k te σ R) (q : ∀ v d H', R d → U.ok (n + k) H' → Same (U.view H) (U.view H') → Dd K (U.view H') v d → D.rt v H') : tRet te D σ H :=
  h n H a hn _ fun v d H1 r ok1 s1 d1 => q v d H1 r ok1 s1 d1
theorem s3_if {t u : TS} (a : At U n M H) (hn : n + k ≤ most) (h : T3 U M k tt σ) (q1 : ∀ H', At U (n + k) M H' → Same (U.view H) (U.view H') → t D σ H') (q2 : ∀ H', At U (n + k) M H' → Same (U.view H) (U.view H') → u D σ H') : tIfS tt t u D σ H :=
  h n H a hn _ fun b H1 ok1 s1 => by
    cases b with
    | true => exact iteT (q1 H1 ⟨ok1, a.up.trans s1⟩ s1)
    | false => exact iteF (q2 H1 ⟨ok1, a.up.trans s1⟩ s1)
/-! dicts that are written -/
theorem e1_dis1 {x : Str} {j : Int} : E1 K U M (tDisp [(tC (.str x), tC (.int j))]) σ (.dict [(.str x, .int j)]) := fun n H a Q q p np => by
  obtain ⟨ok2, s2, f2, _⟩ := U.new (o := .dK []) a.ok np rfl
  obtain ⟨ok3, f3, o3⟩ := U.own (o := .dK [(.inr x, .int j)]) ok2 f2 rfl
  refine ⟨upd_same, [(.inr x, .int j)], rfl, (show 1 ≤ 15 by decide), ?_⟩
  refine q _ _ ok3 (fun b u e => o3 b u (fun z => ?_) (s2 _ _ e)) (.dic (ps := [(.str x, .int j)]) f3 (.cons (.str x) .nil) (.cons (.int j) .nil))
  rw [z] at e
  rw [U.le _ _ _ e] at np
  cases np
theorem e1_dis0 : E1 K U M tDNewK σ (.dict []) := fun n H a Q q p np => by
  obtain ⟨ok2, s2, f2, _⟩ := U.new (o := .dK []) a.ok np rfl
  exact q _ _ ok2 s2 (.dic (ps := []) f2 .nil .nil)
/-! slices of lists -/
def cutD (ds : List PyData) (lo hi : Option Int) : List PyData := (ds.drop (HT.sIx ds.length 0 lo)).take (HT.sIx ds.length ds.length hi - HT.sIx ds.length 0 lo)
theorem DdAll.cut {H : Hp} {vs : List V} {ds : List PyData} (h : DdAll K H vs ds) (lo hi : Option Int) : DdAll K H (cutV vs lo hi) (cutD ds lo hi) := by
  unfold cutV cutD
  rw [h.len]
  exact (h.drop _).take _
theorem cutD_mem {ds : List PyData} {lo hi : Option Int} {d : PyData} (h : d ∈ cutD ds lo hi) : d ∈ ds := List.mem_of_mem_drop (List.mem_of_mem_take h)
theorem e1_sl {tl th : TO} {ds : List PyData} {lo hi : Option Int} (h : E1 K U M te σ (.list ds)) (hlo : ∀ H (Q : Option Int → Hp → Prop), Q lo H → tl σ H Q) (hhi : ∀ H (Q : Option Int → Hp → Prop), Q hi H → th σ H Q) :
    E1 K U M (tSl (rSlL K) te tl th) σ (.list (cutD ds lo hi)) := fun n H a Q q => h n H a _ fun v H1 ok1 s1 d1 => by
  cases d1 with
  | lst hq ha =>
    refine hlo H1 _ (hhi H1 _ ⟨_, _, rfl, .inl (.inl (U.le _ _ _ hq)), fun p np => ?_⟩)
    obtain ⟨ok2, s2, f2, _⟩ := U.new ok1 np rfl
    exact q _ _ ok2 (s1.trans s2) (.lst f2 ((ha.cut lo hi).same s2))
/-- part := n, an int that a slot has -/
theorem po_var {i : Nat} {j : Int} (h : σ[i]? = some (some (.int j))) : ∀ H (Q : Option Int → Hp → Prop), Q (some j) H → tPart (tVar i) σ H Q := fun H Q q => ⟨_, h, j, rfl, q⟩
theorem po_non : ∀ H (Q : Option Int → Hp → Prop), Q none H → tNoPart σ H Q := fun H Q q => q
end
end Mw
/-! ### data among texts: x in ("a", ..), with x of any kind -/
namespace Mw
open PySem PySem.Spec PyProof PyProof.Rows L2 PySem.SeqAt PySem.MeetsSeq
open AutoSeq1 (wpAny_loadPart')
theorem text_declines_dict (b : Str) (u : Tok) (l : Addr) (c : Value) (es : Array DictEntry) (ep : Nat) (dd : Option Addr) (sl : Array (Option Value)) :
    Meets ( Builtin.«str.__eq__» ⟨[.str b u, .ref l], []⟩) (fun _ R s => s.heap.get? l = some { cls := c, dict := dd, data := .dict es ep, slots := sl } ∧ R ( .ok (.ret .notImplemented)) s) :=
  .of_wp fun prog w A R s h => by
    obtain ⟨hp, g, d, tk, os⟩ := s
    obtain ⟨hl, h⟩ := h
    wp_walk using wpAny_loadPart' hl, wpAny_load hl
    exact ⟨_, rfl, h⟩
section
variable {A : Around} {s : Shared}
theorem rc_text_dict {l : Addr} {es : Array DictEntry} {ep : Nat} {dd : Option Addr} {sl : Array (Option Value)} (b : Str) (u : Tok) (hl : s.heap.get? l = some { cls := .type "dict", dict := dd, data := .dict es ep, slots := sl }) (hu : A.units < cLine) : RcAt A s (.str b u) (.ref l) false := fun prog w E Q h =>
  rc_eq_decline_or (k := false) (typeIs_str s b u) ⟨_, hl, rfl⟩ (by decide) F.sub_dict_str F.slot_str_eq F.slot_dict_eq_refl
    (fun _ hq => call_meets F.slot_str_eq (typeIs_str s b u) F.entry_str_eq (F.args_str_eq_2 _ _) (text_declines_dict b u l (.type "dict") es ep dd sl) ⟨hl, hq⟩)
    (fun _ hq => by
      refine wpAny_call_entry F.slot_dict_eq_refl ⟨_, hl, rfl⟩ F.entry_dict_eq ?_ (F.args_dict_eq_2 _ _)
      show wpAny _ _ ( Builtin.Dict.dictSlotArgs "__eq__" ⟨[.ref l, .str b u], []⟩ >>= _) _ _ s
      refine wpAny_bind ?_
      unfold Builtin.Dict.dictSlotArgs
      refine wpAny_bind (wpAny_notOrdered_dict ⟨_, hl, rfl⟩ ?_)
      show wpAny _ _ ( pure (Value.ref l, Value.str b u)) _ _ s
      refine wpAny_pure ?_
      refine wpAny_bind (wpAny_isInstance (T := "str") (typeIs_str s b u) F.sub_str_dict ?_)
      simp only [Bool.not_false, if_true]
      refine wpAny_bind (wpAny_rule ?_)
      exact wpAny_pure ⟨_, rfl, hq⟩)
    (fun _ hq => wpAny_of_eq (rfl : isSame (.str b u) (.ref l) = pure false) hq) ( .inr hu) h
theorem eq_text_dict {l : Addr} {es : Array DictEntry} {ep : Nat} {dd : Option Addr} {sl : Array (Option Value)} (b : Str) (u : Tok) (hl : s.heap.get? l = some { cls := .type "dict", dict := dd, data := .dict es ep, slots := sl }) (hu : A.units < cLine) : EqAt A s (.str b u) (.ref l) false := fun prog w E Q h => by
  unfold eqBool
  refine wpAny_holding ?_
  refine wpAny_ite_split (fun hab => absurd (eq_of_beq hab) nofun) (fun _ => ?_)
  exact wpAny_bind (rc_text_dict b u hl hu prog w E _ ( wpAny_truthy_bool h))
end
def oneT (d : PyData) (t : Str) : Bool := match d with
  | .str x => t == x
  | _ => false
def inText (d : PyData) (ts : List Str) : Bool := ts.any (oneT d)
section
variable {X : Cx} {pins : List (Addr × Obj)} {σ : L2.St} {H : Hp} {s : Shared}
theorem text_eqAt (I : Inv X pins σ H s) (hu : X.A.units + 64 < cLine) {v : V} {d : PyData} {u : Value} (h : Dd X.K H v d) (r : RelV v u) (t : Str) (tok : Tok) : EqAt X.A.in1 s (.str t tok) u (oneT d t) := by
  have h1 : X.A.in1.units < cLine := Nat.lt_of_le_of_lt (show X.A.units + 1 ≤ X.A.units + 64 by omega) hu
  cases h with
  | non =>
    cases r
    exact .str_none t tok
  | bl b =>
    cases r
    exact .str_bool t tok b
  | int i =>
    obtain ⟨k, rfl⟩ := r
    exact .str_int t tok i k
  | str x =>
    obtain ⟨k, rfl⟩ := r
    exact .str_str t tok x k
  | lst hl ha =>
    cases r
    obtain ⟨its, rv, pl, _⟩ := I.list (.inl (.inl hl))
    exact .str_list t tok pl.isList h1
  | tup hl ha =>
    cases r
    obtain ⟨its, rv, pl, _⟩ := I.tuple hl
    exact .str_tuple t tok pl h1
  | dic hl ha hb =>
    cases r
    obtain ⟨_, ns, vs, kv, o, es, ep, ho, hx, hd, _, hp, _⟩ := dk_of I.hok hl
    obtain ⟨cls, dd, data, sl⟩ := o
    have e1 : cls = .type "dict" := hx.1
    have e2 : data = .dict es ep := hd
    subst e1 e2
    exact eq_text_dict t tok ho h1
def eT (d : PyData) : Value → Bool
  | .str t _ => oneT d t
  | _ => false
theorem texts_any {d : PyData} : ∀ {ts : List Str} {us : List Value}, Vals (ts.map V.str) us → us.any (eT d) = inText d ts ∧ ∀ u ∈ us, ∃ t k, u = .str t k
  | [], _, .nil => ⟨rfl, fun _ h => by cases h⟩
  | t :: ts, _, .cons r rs => by
    obtain ⟨k, rfl⟩ := r
    obtain ⟨a, b⟩ := texts_any (d := d) (ts := ts) rs
    refine ⟨?_, fun u hu => (List.mem_cons.mp hu).elim (fun z => ⟨t, k, z⟩) (b u)⟩
    show (oneT d t || _) = _
    rw [a] <;> rfl
/-- x in a tuple of texts, x any data -/
def rInA (K : PySem.W.Frag) (neg : Bool) : R2 := fun x y H Q => ∃ (d : PyData) (l : Addr) (ts : List Str), Dd K H x d ∧ y = .ref l ∧ SqT K H l (ts.map V.str) ∧ Q (.bl (if neg then !inText d ts else inText d ts)) H
theorem op_inA (hu : X.A.units + 64 < cLine) : OpR X (compareOp .In) (rInA X.K false) := by
  intro pins s σ H x y v u Q I rx ry h
  obtain ⟨d, l, ts, hd, rfl, hq, q⟩ := h
  cases ry
  obtain ⟨its, r, pl, _⟩ := I.tuple hq
  obtain ⟨e1, e2⟩ := texts_any (d := d) r
  refine in_tupleAt (eT d) pl (fun w hw => ?_) ⟨.bl _, H, I, rfl, ?_⟩
  · obtain ⟨t, k, rfl⟩ := e2 w (by simpa using hw)
    exact text_eqAt I hu hd rx t k
  · rw [show its.toArray.any (eT d) = its.any (eT d) by simp, e1]
    exact q
theorem op_notInA (hu : X.A.units + 64 < cLine) : OpR X (compareOp .NotIn) (rInA X.K true) := by
  intro pins s σ H x y v u Q I rx ry h
  obtain ⟨d, l, ts, hd, rfl, hq, q⟩ := h
  cases ry
  obtain ⟨its, r, pl, _⟩ := I.tuple hq
  obtain ⟨e1, e2⟩ := texts_any (d := d) r
  refine notIn_tupleAt (eT d) pl (fun w hw => ?_) ⟨.bl _, H, I, rfl, ?_⟩
  · obtain ⟨t, k, rfl⟩ := e2 w (by simpa using hw)
    exact text_eqAt I hu hd rx t k
  · rw [show its.toArray.any (eT d) = its.any (eT d) by simp, e1]
    exact q
end
theorem r1_inA {K : PySem.W.Frag} {U : Wo} {neg : Bool} {d : PyData} {ts : List Str} : R1 K U (rInA K neg) d (.tuple (ts.map .str)) (.bool (if neg then !inText d ts else inText d ts)) := fun n H x y ok h1 h2 Q q => by
  cases h2 with
  | tup hq ha =>
    have e0 : ts.map PyData.str = (ts.map (Sum.inr : Str → Key)).map keyD := by rw [List.map_map] <;> rfl
    rw [e0] at ha
    have e1 := key_vals ha
    rw [List.map_map] at e1
    subst e1
    exact ⟨d, _, ts, h1.same (U.le _), rfl, seqT (U.le _) hq, q _ H ok (Same.refl _) (.bl _)⟩
/-! x == [], x == () where x has items of any kind -/
def rEq0 (K : PySem.W.Frag) : R2 := fun x y H Q => ∃ (a b : Addr) (xs : List V), x = .ref a ∧ y = .ref b ∧ ((SqL K H a xs ∧ SqL K H b []) ∨ (SqT K H a xs ∧ SqT K H b [])) ∧ Q (.bl xs.isEmpty) H
theorem op_eq0 {X : Cx} (hu : X.A.units + 64 < cLine) : OpR X (compareOp .Eq) (rEq0 X.K) := by
  intro pins s σ H x y v u Q I rx ry h
  obtain ⟨a, b, xs, rfl, rfl, hq, q⟩ := h
  cases rx
  cases ry
  have h1 : X.A.units < cLine := by omega
  rcases hq with ⟨h2, h3⟩ | ⟨h2, h3⟩
  · obtain ⟨i1, r1, p1, _⟩ := I.list h2
    obtain ⟨i2, r2, p2, _⟩ := I.list h3
    cases r2
    cases r1 with
    | nil => exact eq_listAt (e := fun _ => true) p1.isList p2.isList rfl h1 (fun j h _ => absurd h (Nat.not_lt_zero _)) ⟨.bl _, H, I, rfl, q⟩
    | cons c cs => exact eq_list_lengthsAt p1.isList p2.isList rfl h1 ⟨.bl _, H, I, rfl, q⟩
  · obtain ⟨i1, r1, p1, _⟩ := I.tuple h2
    obtain ⟨i2, r2, p2, _⟩ := I.tuple h3
    cases r2
    refine eq_tupleAt (e := fun _ => true) p1 p2 h1 (fun j _ h => absurd h (Nat.not_lt_zero _)) ⟨.bl _, H, I, rfl, ?_⟩
    cases r1 with
    | nil => exact q
    | cons c cs => exact q
theorem r1_eq0L {K : PySem.W.Frag} {U : Wo} {ds : List PyData} : R1 K U (rEq0 K) (.list ds) (.list []) (.bool ds.isEmpty) := fun n H x y ok h1 h2 Q q => by
  cases h1 with
  | lst hq ha =>
    cases h2 with
    | lst hr hb =>
      cases hb
      refine ⟨_, _, _, rfl, rfl, .inl ⟨.inl (.inl (U.le _ _ _ hq)), .inl (.inl (U.le _ _ _ hr))⟩, ?_⟩
      cases ha with
      | nil => exact q _ H ok (Same.refl _) (.bl _)
      | cons c cs => exact q _ H ok (Same.refl _) (.bl _)
theorem r1_eq0T {K : PySem.W.Frag} {U : Wo} {ds : List PyData} : R1 K U (rEq0 K) (.tuple ds) (.tuple []) (.bool ds.isEmpty) := fun n H x y ok h1 h2 Q q => by
  cases h1 with
  | tup hq ha =>
    cases h2 with
    | tup hr hb =>
      cases hb
      refine ⟨_, _, _, rfl, rfl, .inr ⟨seqT (U.le _) hq, seqT (U.le _) hr⟩, ?_⟩
      cases ha with
      | nil => exact q _ H ok (Same.refl _) (.bl _)
      | cons c cs => exact q _ H ok (Same.refl _) (.bl _)
end Mw
/-! ### a dict that changes, out of sight -/
namespace Mw
open PySem PySem.Spec PyProof.Rows L2
/-- one object out of sight, of which Pm holds -/
def Wo.part (U : Wo) (F : Addr) (Pm : HO → Prop) : Wo where
  view := fun H => hideV F (U.view H)
  ok := fun n H => U.ok n H ∧ ∃ o, U.view H F = some o ∧ Pm o
  le := fun H => (hide_le F _).trans (U.le H)
  mono := fun h l => ⟨U.mono h.1 l, h.2⟩
  new := by
    intro n H H1 p o' h np e
    obtain ⟨x, y, z, w⟩ := U.new h.1 np e
    obtain ⟨o, ho, hp⟩ := h.2
    have pD : p ≠ F := fun q => by
      rw [q, U.le _ _ _ ho] at np
      cases np
    refine ⟨⟨x, o, y _ _ ho, hp⟩, hide_same y, hide_at z pD, ?_⟩
    unfold hideV
    rw [if_neg pD]
    exact w
  own := by
    intro n H H1 p o1 o2 h hp e
    obtain ⟨pD, hp⟩ := hide_of hp
    obtain ⟨o, ho, hm⟩ := h.2
    obtain ⟨x, y, z⟩ := U.own h.1 hp e
    exact ⟨⟨x, o, z _ _ pD.symm ho, hm⟩, hide_at y pD, fun a u n q => hide_at (z a u n (hide_of q).2) (hide_of q).1⟩
theorem Of.part {U : Wo} {W : Wd} (o : Of U W) (F : Addr) (Pm : HO → Prop) : Of (U.part F Pm) W where
  st := fun h => o.st h.1
  go := fun h s e => by
    obtain ⟨a, b⟩ := o.go h.1 s e
    obtain ⟨x, hx, px⟩ := h.2
    exact ⟨⟨a, x, b _ _ hx, px⟩, hide_same b⟩
  le := fun H => (hide_le F _).trans (o.le H)
  new := fun h nl e => hide_at (o.new h.1 nl e) (fun z => by
    obtain ⟨x, hx, _⟩ := h.2
    rw [z, U.le _ _ _ hx] at nl
    cases nl)
def frameK (tf ln : Addr) (m : Int) : List (Key × V) := [(.inr "fields", .ref tf), (.inr "numbers", .ref ln), (.inr "marks", .int m)]
/-- F is a frame there -/
structure Fr (U : Wo) (F tf ln : Addr) : Prop where
  get : ∀ {n H}, U.ok n H → ∃ m : Int, H F = some (.dK (frameK tf ln m))
  set : ∀ {n H H1} {m : Int}, U.ok n H → upd H F (.dK (frameK tf ln m)) = H1 → U.ok n H1 ∧ Same (U.view H) (U.view H1)
theorem Fr.hide {U : Wo} {F tf ln : Addr} (f : Fr U F tf ln) (D : Addr) (o : HO) : Fr (U.hide D o) F tf ln where
  get := fun h => f.get h.1
  set := fun h e => by
    obtain ⟨a, b⟩ := f.set h.1 e
    exact ⟨⟨a, b _ _ h.2⟩, hide_same b⟩
theorem fr_part (U : Wo) (F tf ln : Addr) : Fr (U.part F fun o => ∃ m : Int, o = .dK (frameK tf ln m)) F tf ln where
  get := fun h => by
    obtain ⟨o, ho, m, rfl⟩ := h.2
    exact ⟨m, U.le _ _ _ ho⟩
  set := by
    intro n H H1 m h e
    obtain ⟨o, ho, m0, rfl⟩ := h.2
    obtain ⟨x, y, z⟩ := U.own h.1 ho e
    exact ⟨⟨x, _, y, m, rfl⟩, fun a u q => hide_at (z a u (hide_of q).1 (hide_of q).2) (hide_of q).1⟩
section
variable {K : PySem.W.Frag} {U : Wo} {W : Wd} {M : Hp} {σ : L2.St} {n k k1 k2 m : Nat} {te ta tb : TE} {t : TA} {R S : PyData → Prop} {F tf ln : Addr} {i j : Nat}
theorem fr_fields (f : Fr U F tf ln) (h : σ[i]? = some (some (.ref F))) {d : PyData} (hd : Dd K M (.ref tf) d) : E1 K U M (tDGet (tVar i) (tC (.str "fields"))) σ d := fun n H a Q q => by
  obtain ⟨m, hF⟩ := f.get a.ok
  refine ⟨_, h, F, .ref tf, rfl, ?_, q _ H a.ok (Same.refl _) (hd.same a.up)⟩
  have g := DGet.k (k := (Sum.inr "fields" : Key)) hF
  exact g
theorem fr_numbers (f : Fr U F tf ln) (h : σ[i]? = some (some (.ref F))) {d : PyData} (hd : Dd K M (.ref ln) d) : E1 K U M (tDGet (tVar i) (tC (.str "numbers"))) σ d := fun n H a Q q => by
  obtain ⟨m, hF⟩ := f.get a.ok
  refine ⟨_, h, F, .ref ln, rfl, ?_, q _ H a.ok (Same.refl _) (hd.same a.up)⟩
  have g := DGet.k (k := (Sum.inr "numbers" : Key)) hF
  exact g
theorem fr_marks (f : Fr U F tf ln) (h : σ[i]? = some (some (.ref F))) : E3 K U M 0 (tDGet (tVar i) (tC (.str "marks"))) σ (fun d => ∃ m : Int, d = .int m) := fun n H a _ Q q => by
  obtain ⟨m, hF⟩ := f.get a.ok
  refine ⟨_, h, F, .int m, rfl, ?_, q _ _ H ⟨m, rfl⟩ a.ok (Same.refl _) (.int m)⟩
  have g := DGet.k (k := (Sum.inr "marks" : Key)) hF
  exact g
theorem s3_marks {D : Ends} {H : Hp} (a : At U n M H) (hn : n + k ≤ most) (f : Fr U F tf ln) (hi : σ[i]? = some (some (.ref F))) (h : E3 K U M k te σ (fun d => ∃ m : Int, d = .int m)) (q : ∀ H', At U (n + k) M H' → Same (U.view H) (U.view H') → D.nx σ H') : sDPut (tVar i) (tC (.str "marks")) te D σ H :=
  h n H a hn _ fun v d H1 r ok1 s1 d1 => by
    obtain ⟨m, rfl⟩ := r
    cases d1
    obtain ⟨m0, hF⟩ := f.get ok1
    refine ⟨_, hi, F, _, rfl, DPut.k (k := (Sum.inr "marks" : Key)) hF (by show 3 < sizeLine; decide), ?_⟩
    obtain ⟨ok2, s2⟩ := f.set (m := m) ok1 rfl
    exact q _ ⟨ok2, a.up.trans (s1.trans s2)⟩ (s1.trans s2)
/-! tuples put together -/
theorem r1_catA {xs ys : List PyData} (z : xs.length + ys.length ≤ 100000) : R1 K U (rCatA K) (.tuple xs) (.tuple ys) (.tuple (xs ++ ys)) := fun n H x y ok h1 h2 Q q => by
  cases h1 with
  | tup f1 a1 =>
    cases h2 with
    | tup f2 a2 =>
      refine ⟨_, _, _, _, rfl, rfl, seqT (U.le _) f1, seqT (U.le _) f2, thousand (by rw [a1.len, a2.len]; exact z), fun e => ?_, fun _ e => ?_, fun _ _ p np => ?_⟩
      · subst e
        cases a1
        exact q _ H ok (Same.refl _) (.tup f2 a2)
      · subst e
        cases a2
        rw [List.append_nil] at q
        exact q _ H ok (Same.refl _) (.tup f1 a1)
      · obtain ⟨ok2, s2, f2, _⟩ := U.new (o := .tup _) ok np rfl
        exact q _ _ ok2 s2 (.tup (.inl (.inl f2)) ((a1.app a2).same s2))
/-! two that draw, one behind the other -/
theorem e3_op {r : R2} {f : PyData → PyData → PyData} (ha : E3 K U M k1 ta σ R) (hb : E3 K U M k2 tb σ S) (hr : ∀ d e, R d → S e → R1 K U r d e (f d e)) : E3 K U M (k1 + k2) (tOp r ta tb) σ (fun x => ∃ d e, R d ∧ S e ∧ x = f d e) := fun n H a hn Q q =>
  ha n H a (by omega) _ fun x d H1 r1 ok1 s1 d1 => hb (n + k1) H1 ⟨ok1, a.up.trans s1⟩ (by omega) _ fun y e H2 r2 ok2 s2 e2 => hr d e r1 r2 _ H2 x y ok2 (d1.same s2) e2 Q fun v H3 ok3 s3 e3 => q v _ H3 ⟨d, e, r1, r2, rfl⟩ (by rw [← Nat.add_assoc]; exact ok3) ((s1.trans s2).trans s3) e3
theorem e3_tup (h : A3 K U M k t σ (Each m R)) (z : m ≤ 100000) : E3 K U M k (tTup t) σ (fun d => ∃ ds, d = .tuple ds ∧ Each m R ds) := fun n H a hn Q q =>
  h n H a hn _ fun vs ds H1 r ok1 s1 d1 => ⟨thousand (by rw [d1.len, r.1]; exact z), fun p np => by
    obtain ⟨ok2, s2, f2, _⟩ := U.new (o := .tup vs) ok1 np rfl
    exact q _ _ _ ⟨ds, rfl, r⟩ ok2 (s1.trans s2) (.tup (.inl (.inl f2)) (d1.same s2))⟩
theorem a3_cons1' {k2 m : Nat} {d : PyData} (h : E1 K U M te σ d) (r : R d) (hs : A3 K U M k2 t σ (Each m R)) : A3 K U M k2 (tCons te t) σ (Each (m + 1) R) := fun n H a hn Q q => by
  refine a3_cons (k1 := 0) (h.e3 r) hs n H a (by omega) Q ?_
  rw [Nat.zero_add]
  exact q
/-- int(a == b) -/
theorem e3_int1 (h : E3 K U M k te σ (fun d => ∃ b, d = .bool b)) : E3 K U M k (tCB (fun xs H Q => (∃ i, xs = [.int i] ∧ Q (.int i) H) ∨ ∃ k, xs = [.bl k] ∧ Q (.int (if k then 1 else 0)) H) (tCons te tNil)) σ (fun d => d = .int 0 ∨ d = .int 1) := fun n H a hn Q q => h n H a hn _ fun v d H1 r ok1 s1 d1 => by
  obtain ⟨b, rfl⟩ := r
  cases d1
  refine .inr ⟨b, rfl, ?_⟩
  cases b with
  | true => exact q _ _ H1 (.inr rfl) ok1 s1 (.int 1)
  | false => exact q _ _ H1 (.inl rfl) ok1 s1 (.int 0)
end
/-! what a drawn tree weighs -/
mutual
def fineB : PyData → Bool
  | .str x => decide (x.length ≤ 100000) && PyData.strOk x
  | .tuple xs => fineBs xs
  | .none => true
  | .bool _ => true
  | .int _ => true
  | .list _ => true
  | .dict _ => true
def fineBs : List PyData → Bool
  | [] => true
  | x :: xs => fineB x && fineBs xs
end
def okt (k m : Nat) (d : PyData) : Bool := d.showable && (d.leavesShort 64 && (decide (d.depth ≤ k) && (decide (d.weight ≤ m) && fineB d)))
theorem okt_iff {k m : Nat} {d : PyData} : okt k m d = true ↔ d.showable = true ∧ d.leavesShort 64 = true ∧ d.depth ≤ k ∧ d.weight ≤ m ∧ fineB d = true := by simp [okt]
theorem okt_more {k m k' m' : Nat} {d : PyData} (h : okt k m d = true) (hk : k ≤ k') (hm : m ≤ m') : okt k' m' d = true := by
  rw [okt_iff] at h ⊢
  exact ⟨h.1, h.2.1, Nat.le_trans h.2.2.1 hk, Nat.le_trans h.2.2.2.1 hm, h.2.2.2.2⟩
theorem okt_fit {k m : Nat} {d : PyData} (h : okt k m d = true) (hk : k ≤ 60) (hm : m ≤ 220000) : Fit d := by
  rw [okt_iff] at h
  refine ⟨h.1, Nat.le_trans h.2.2.1 hk, ?_⟩
  have a := PyData.shown_le 64 (by decide) d h.2.1
  have b : (15000000 : Nat) ≤ sizeLine := by decide
  omega
/-- what a list of them is -/
def oks (k m : Nat) (ds : List PyData) : Prop := PyData.showableAll ds = true ∧ PyData.leavesShortAll 64 ds = true ∧ PyData.depthAll ds ≤ k ∧ PyData.weightAll ds ≤ m ∧ fineBs ds = true
theorem oks_tup {k m : Nat} {ds : List PyData} (h : oks k m ds) : okt (k + 1) m (.tuple ds) = true := by
  rw [okt_iff]
  simp only [PyData.showable, PyData.leavesShort, PyData.depth, PyData.weight, fineB]
  exact ⟨h.1, h.2.1, Nat.add_le_add_right h.2.2.1 1, h.2.2.2.1, h.2.2.2.2⟩
theorem oks_lst {k m : Nat} {ds : List PyData} (h : oks k m ds) : okt (k + 1) m (.list ds) = true := by
  rw [okt_iff]
  simp only [PyData.showable, PyData.leavesShort, PyData.depth, PyData.weight, fineB]
  exact ⟨h.1, h.2.1, Nat.add_le_add_right h.2.2.1 1, h.2.2.2.1, trivial⟩
theorem tup_oks {k m : Nat} {ds : List PyData} (h : okt k m (.tuple ds) = true) : 1 ≤ k ∧ oks (k - 1) m ds := by
  rw [okt_iff] at h
  simp only [PyData.showable, PyData.leavesShort, PyData.depth, PyData.weight, fineB] at h
  obtain ⟨a, b, c, d, e⟩ := h
  exact ⟨by omega, a, b, by omega, d, e⟩
theorem oks_nil {k m : Nat} : oks k m [] := ⟨rfl, rfl, Nat.zero_le _, Nat.zero_le _, rfl⟩
theorem oks_cons {k m1 m2 m : Nat} {d : PyData} {ds : List PyData} (h : okt k m1 d = true) (hs : oks k m2 ds) (l : m1 + 1 + m2 ≤ m) : oks k m (d :: ds) := by
  rw [okt_iff] at h
  obtain ⟨a1, a2, a3, a4, a5⟩ := h
  obtain ⟨b1, b2, b3, b4, b5⟩ := hs
  refine ⟨by simp [PyData.showableAll, a1, b1], by simp [PyData.leavesShortAll, a2, b2], by simp only [PyData.depthAll]; omega, by simp only [PyData.weightAll]; omega, by simp [fineBs, a5, b5]⟩
theorem cons_oks {k m : Nat} {d : PyData} {ds : List PyData} (h : oks k m (d :: ds)) : okt k (PyData.weight d) d = true ∧ oks k (PyData.weightAll ds) ds ∧ PyData.weight d + 1 + PyData.weightAll ds ≤ m := by
  obtain ⟨b1, b2, b3, b4, b5⟩ := h
  simp only [PyData.showableAll, Bool.and_eq_true] at b1
  simp only [PyData.leavesShortAll, Bool.and_eq_true] at b2
  simp only [PyData.depthAll] at b3
  simp only [PyData.weightAll] at b4
  simp only [fineBs, Bool.and_eq_true] at b5
  exact ⟨okt_iff.mpr ⟨b1.1, b2.1, by omega, Nat.le_refl _, b5.1⟩, ⟨b1.2, b2.2, by omega, Nat.le_refl _, b5.2⟩, b4⟩
theorem oks_more {k m k' m' : Nat} {ds : List PyData} (h : oks k m ds) (hk : k ≤ k') (hm : m ≤ m') : oks k' m' ds := ⟨h.1, h.2.1, Nat.le_trans h.2.2.1 hk, Nat.le_trans h.2.2.2.1 hm, h.2.2.2.2⟩
theorem oks_app {k m1 m2 : Nat} : ∀ {xs ys : List PyData}, oks k m1 xs → oks k m2 ys → oks k (m1 + m2) (xs ++ ys)
  | [], ys, _, h => oks_more h (Nat.le_refl _) (by omega)
  | x :: xs, ys, h, h2 => by
    obtain ⟨a, b, c⟩ := cons_oks h
    exact oks_cons a (oks_app b h2) (by omega)
theorem app_oks {k m : Nat} : ∀ {xs ys : List PyData}, oks k m (xs ++ ys) → oks k (PyData.weightAll xs) xs ∧ oks k (PyData.weightAll ys) ys ∧ PyData.weightAll xs + PyData.weightAll ys ≤ m
  | [], ys, h => ⟨oks_nil, oks_more ⟨h.1, h.2.1, h.2.2.1, Nat.le_refl _, h.2.2.2.2⟩ (Nat.le_refl _) (Nat.le_refl _), by simpa [PyData.weightAll] using h.2.2.2.1⟩
  | x :: xs, ys, h => by
    obtain ⟨a, b, c⟩ := cons_oks h
    obtain ⟨d, e, f⟩ := app_oks b
    have w : PyData.weightAll (x :: xs) = PyData.weight x + 1 + PyData.weightAll xs := by simp only [PyData.weightAll]
    exact ⟨oks_cons a d (by omega), e, by omega⟩
theorem oks_each {k m : Nat} : ∀ {ds : List PyData}, (∀ d ∈ ds, okt k m d = true) → oks k (ds.length * (m + 1)) ds
  | [], _ => oks_nil
  | d :: ds, h => by
    refine oks_cons (h d (List.mem_cons_self ..)) (oks_each fun e he => h e (List.mem_cons_of_mem _ he)) ?_
    rw [List.length_cons, Nat.add_mul]
    omega
theorem okt_int {i : Int} (h : i.natAbs ≤ 10 ^ 12) : okt 0 41 (.int i) = true := by
  have h3 : i.natAbs.log2 < 40 ∨ i.natAbs = 0 := by
    by_cases z : i.natAbs = 0
    · exact .inr z
    · exact .inl ((Nat.log2_lt z).mpr (Nat.lt_of_le_of_lt h (by decide)))
  have h4 : i.natAbs.log2 < 40 := by
    rcases h3 with z | z
    · exact z
    · rw [z]
      decide
  rw [okt_iff]
  refine ⟨?_, ?_, Nat.le_refl _, ?_, rfl⟩
  · simp only [PyData.showable, decide_eq_true_eq]
    omega
  · have e := int_text_length_le10 (a := i) (k := 13) (by decide) (Nat.lt_of_le_of_lt h (by decide))
    simp only [PyData.leavesShort, decide_eq_true_eq]
    show (Str.ofString (toString i)).length ≤ 64
    rw [PySem.ofString_length]
    omega
  · simp only [PyData.weight]
    split <;> omega
section
variable {K : PySem.W.Frag} {U : Wo} {W : Wd} {M : Hp} {σ : L2.St} {n k k1 k2 m : Nat} {te ta tb : TE} {t : TA} {R S : PyData → Prop}
/-- [e for x in xs], e draws -/
theorem e3_lcC {C : Wo → Prop} (cU : C U) (cH : ∀ (U : Wo) D o, C U → C (U.hide D o)) {wi : TI} {j k0 m : Nat} {vs : List Nat} {P : List PyData → Prop} (h : I3 K U M k0 wi σ P) (z : ∀ ds, P ds → ds.length ≤ m) (z1 : m ≤ 100000) (hw : ∀ x, wipe ((wipe σ vs).set j (some x)) vs = wipe σ vs)
    (he : ∀ (U' : Wo) M' v, C U' → Same M M' → E3 K U' M' k te ((wipe σ vs).set j (some v)) R) :
    E3 K U M (k0 + m * k) (tLc wi (gName j) tYes te vs) σ (fun d => ∃ ds es, P ds ∧ d = .list es ∧ es.length = ds.length ∧ ∀ e ∈ es, R e) := fun n H a hn Q q => h n H a (by omega) _ fun J ds H1 p ok1 s1 w => by
  intro D nD
  have hm : ds.length ≤ m := z ds p
  have a1 : Same M (U.view H1) := a.up.trans s1
  have nD0 : U.view H1 D = none := by
    cases e : U.view H1 D with
    | none => rfl
    | some x =>
      rw [U.le _ _ _ e] at nD
      cases nD
  have off : Same (U.view H1) (hideV D (U.view H1)) := fun b x e => hide_at e (fun q => by
    rw [q, nD0] at e
    cases e)
  refine lc_it w (fun i H' => U.ok (n + k0 + i * k) H' ∧ Same (U.view H1) (hideV D (U.view H')) ∧ ∃ acc es, U.view H' D = some (.lst acc) ∧ DdAll K (hideV D (U.view H')) acc es ∧ es.length = i ∧ ∀ e ∈ es, R e) ?_ (fun i H' _ z => z.2.1.trans (hide_le _ _)) ?_ ?_
  · obtain ⟨ok2, s2, f2, _⟩ := U.new (o := .lst []) ok1 nD rfl
    exact ⟨by rw [Nat.zero_mul]; exact ok2, off.trans (hide_same s2), [], [], f2, .nil, rfl, fun _ h => nomatch h⟩
  · rintro i x H2 H3 hi ⟨ok2, s2, acc, es, f2, da, el, er⟩ ⟨rfl, d, hd, dx⟩
    have hik : i * k + k ≤ m * k := by
      have := Nat.mul_le_mul_right k (show i + 1 ≤ m by omega)
      rwa [Nat.add_mul, Nat.one_mul] at this
    refine ⟨hw x, ?_⟩
    refine rd_yes (L2.iteT ?_)
    refine he (U.hide D (.lst acc)) (U.view H1) x (cH _ D _ cU) a1 _ H3 ⟨⟨ok2, f2⟩, s2⟩ (by omega) _ fun y e H5 r5 ok5 s5 dy => ?_
    have hl : acc.length ≤ 100000 := by
      rw [da.len, el]
      omega
    refine ⟨acc, U.le _ _ _ ok5.2, Nat.lt_of_le_of_lt hl (by decide), ?_⟩
    obtain ⟨ok6, f6, o6⟩ := U.own (o := .lst (acc ++ [y])) ok5.1 ok5.2 rfl
    have k6 : Same (hideV D (U.view H5)) (hideV D (U.view (upd H5 D (.lst (acc ++ [y]))))) := fun b u e => hide_at (o6 b u (hide_of e).1 (hide_of e).2) (hide_of e).1
    refine ⟨?_, (s2.trans s5).trans k6, _, es ++ [e], f6, (da.same (s5.trans k6)).app (.cons (dy.same k6) .nil), ?_, ?_⟩
    · rw [Nat.add_mul, Nat.one_mul, ← Nat.add_assoc]
      exact ok6
    · rw [List.length_append, el] <;> rfl
    · intro e' he'
      rcases List.mem_append.mp he' with h1 | h1
      · exact er e' h1
      · rw [List.mem_singleton.mp h1]
        exact r5
  · rintro H2 ⟨ok2, s2, acc, es, f2, da, el, er⟩
    have hik := Nat.mul_le_mul_right k hm
    exact q _ _ _ ⟨ds, es, p, rfl, el, er⟩ (U.mono ok2 (by omega)) (s1.trans (s2.trans (hide_le _ _))) (.lst f2 (da.same (hide_le _ _)))
theorem a3_oks {kd m1 m2 k2 : Nat} (h : E3 K U M k1 te σ (fun d => okt kd m1 d = true)) (hs : A3 K U M k2 t σ (oks kd m2)) : A3 K U M (k1 + k2) (tCons te t) σ (oks kd (m1 + 1 + m2)) := fun n H a hn Q q =>
  h n H a (by omega) _ fun v d H1 r1 ok1 s1 d1 => hs (n + k1) H1 ⟨ok1, a.up.trans s1⟩ (by omega) _ fun vs ds H2 r2 ok2 s2 d2 => q _ (d :: ds) H2
    (oks_cons r1 r2 (Nat.le_refl _)) (by rw [← Nat.add_assoc]; exact ok2) (s1.trans s2) (.cons (d1.same s2) d2)
theorem a3_oks1 {kd m1 m2 k2 : Nat} {d : PyData} (h : E1 K U M te σ d) (r : okt kd m1 d = true) (hs : A3 K U M k2 t σ (oks kd m2)) : A3 K U M k2 (tCons te t) σ (oks kd (m1 + 1 + m2)) := fun n H a hn Q q => by
  refine a3_oks (k1 := 0) (h.e3 r) hs n H a (by omega) Q ?_
  rw [Nat.zero_add]
  exact q
theorem a3_oks0 {kd : Nat} : A3 K U M 0 tNil σ (oks kd 0) := fun n H a _ Q q => q [] [] H oks_nil a.ok (Same.refl _) .nil
theorem len_weight : ∀ ds : List PyData, ds.length ≤ PyData.weightAll ds
  | [] => Nat.zero_le _
  | d :: ds => by
    have := len_weight ds
    simp only [PyData.weightAll, List.length_cons]
    omega
theorem e3_tupO {kd m : Nat} (h : A3 K U M k t σ (oks kd m)) (z : m ≤ 100000) : E3 K U M k (tTup t) σ (fun d => okt (kd + 1) m d = true) := fun n H a hn Q q =>
  h n H a hn _ fun vs ds H1 r ok1 s1 d1 => ⟨thousand (by
    have := len_weight ds
    have := r.2.2.2.1
    rw [d1.len]
    omega), fun p np => by
    obtain ⟨ok2, s2, f2, _⟩ := U.new (o := .tup vs) ok1 np rfl
    exact q _ _ _ (oks_tup r) ok2 (s1.trans s2) (.tup (.inl (.inl f2)) (d1.same s2))⟩
end
end Mw
/-! ### sorted, told exactly: ints and texts of a list or a tuple, tuples of ints of a list of any length -/
namespace Mw
open PySem PySem.Spec PyProof PyProof.Rows L2
/-- there is one ascending order -/
theorem srt_uniq {α : Type} (r : α → Int) : ∀ {l m : List α}, l.Perm m → l.Pairwise (fun x y => r x ≤ r y) → m.Pairwise (fun x y => r x ≤ r y) → (∀ x ∈ l, ∀ y ∈ l, r x = r y → x = y) → l = m
  | [], m, h, _, _, _ => (List.Perm.eq_nil h.symm).symm
  | x :: l, [], h, _, _, _ => absurd h.length_eq (by simp)
  | x :: l, y :: m, h, hl, hm, inj => by
    have hy : y ∈ x :: l := h.mem_iff.mpr (List.mem_cons_self ..)
    have h1 : r x ≤ r y := by
      rcases List.mem_cons.mp hy with e | e
      · rw [e]
        exact Int.le_refl _
      · exact (List.pairwise_cons.mp hl).1 y e
    have h2 : r y ≤ r x := by
      rcases List.mem_cons.mp (h.mem_iff.mp (List.mem_cons_self (a := x) (l := l))) with e | e
      · rw [e]
        exact Int.le_refl _
      · exact (List.pairwise_cons.mp hm).1 x e
    have e := inj x (List.mem_cons_self ..) y hy (by omega)
    subst e
    rw [srt_uniq r h.cons_inv (List.pairwise_cons.mp hl).2 (List.pairwise_cons.mp hm).2 fun a ha b hb => inj a (List.mem_cons_of_mem _ ha) b (List.mem_cons_of_mem _ hb)]
theorem ints_uniq {l m : List Int} (h : l.Perm m) (h1 : l.Pairwise (· ≤ ·)) (h2 : m.Pairwise (· ≤ ·)) : l = m := srt_uniq (fun x => x) h h1 h2 fun _ _ _ _ e => e
section
variable {prog : Program} {w : World} {A : Around} {E : Value → Shared → Prop} {s : Shared}
/-- sorted of a tuple of ints -/
theorem sorted_tupI {l : Addr} {vs : List Value} {ns : List Int} {Q : Value → Shared → Prop} (hl : s.heap.IsTuple l vs.toArray) (hI : IntsAre vs ns) (hz : vs.length ≤ sizeLine)
    (h : ∀ (out : Array Value) (ms : List Int), IntsAre out.toList ms → ms.Perm ns → ms.Pairwise (· ≤ ·) → Q (.ref (s.heap.objs.size + 1)) { s with heap := sortedAll s.heap vs out }) :
    wpAny (model prog w) A (call (.builtin "sorted") [.ref l]) Q E s := by
  refine Calls.call_function_entry kind_sorted plain_sorted entry_sorted (args_sorted1 _) ?_
  unfold Builtin.«sorted»
  refine wpAny_bind (m := checkCount "sorted" 1 1 _) (wpAny_pure ?_)
  refine wpAny_bind (collect_tupM hl ?_ hz)
  refine wpAny_bind (wpAny_newList ?_ hz)
  have size : ((s.heap.push (seqObj "list" #[] 0)).update s.heap.objs.size (Obj.mapSeq (· ++ vs.toArray))).objs.size = s.heap.objs.size + 1 := by
    rw [Heap.size_update, size_push']
  have here : (((s.heap.push (seqObj "list" #[] 0)).update s.heap.objs.size (Obj.mapSeq (· ++ vs.toArray))).push (seqObj "list" vs.toArray 0)).get? (s.heap.objs.size + 1) = some (seqObj "list" vs.toArray 0) := by
    rw [← size]
    exact Heap.get?_push_size _ rfl
  show wpAny _ _ _ _ _ { s with heap := ((s.heap.push (seqObj "list" #[] 0)).update s.heap.objs.size (Obj.mapSeq (· ++ vs.toArray))).push (seqObj "list" vs.toArray 0) }
  rw [size]
  refine wpAny_bind (wpAny_holding (wpAny_call_entry slot_list_sort ⟨_, here, rfl⟩ entry_list_sort (SrtO.list_sort_ord SrtO.swo_int here hz (fun h2 => SrtO.ints_sortable hI h2) fun out h1 h2 => ⟨_, rfl, ?_⟩) (args_list_sort _)))
  obtain ⟨k1, k2, k3⟩ := SrtO.ints_out hI h1 h2
  exact wpAny_pure ⟨_, rfl, h out.toArray _ k1 k2 k3⟩
end
/-- sorted of a list or a tuple of ints -/
def rSrtI (K : PySem.W.Frag) : List V → Hp → VK → Prop := fun vs H Q => ∃ (a : Addr) (ns : List Int), vs = [V.ref a] ∧ (SqL K H a (ns.map V.int) ∨ SqT K H a (ns.map V.int)) ∧ ns.length ≤ sizeLine ∧
  ∀ (ms : List Int) (p : Addr), ms.Perm ns → ms.Pairwise (· ≤ ·) → H p = none → Q (.ref p) (upd H p (.lst (ms.map V.int)))
theorem cr_srtI {X : Cx} : CallR X (.builtin "sorted") (rSrtI X.K) := by
  intro pins s σ H vs us Q I r h
  obtain ⟨a, ns, rfl, hs, hz, q⟩ := h
  rcases hs with hs | hs
  · exact cr_sortedI pins s σ H _ us Q I r ⟨a, ns, rfl, hs, fun ms p h1 h2 h3 => q ms p h1 h2 h3⟩
  · obtain ⟨its, rv, hl, _⟩ := I.tuple hs
    rw [Vals.ref1 r]
    have len := rv.length
    rw [List.length_map] at len
    refine sorted_tupI hl rv.ints (by rw [← len]; exact hz) fun out ms h1 h2 h3 => ?_
    obtain ⟨ep, he⟩ := sortedAll_at s.heap its out
    have fits : (ms.map V.int).length ≤ sizeLine := by
      rw [List.length_map, h2.length_eq]
      exact hz
    exact ⟨.ref _, upd H (s.heap.objs.size + 1) (.lst (ms.map V.int)), I.laid (t' := s.toks) (fun _ _ => sortedAll_old) (Nat.le_succ _) ⟨fits, out.toList, ep, vals_of_ints h1, he⟩, rfl, q ms _ h2 h3 (I.hok.fresh (Nat.le_succ _))⟩
/-- sorted of a list or a tuple of texts -/
def rSrtS (K : PySem.W.Frag) : List V → Hp → VK → Prop := fun vs H Q => ∃ (a : Addr) (xs : List Str), vs = [V.ref a] ∧ (SqL K H a (xs.map V.str) ∨ SqT K H a (xs.map V.str)) ∧ xs.length < 64 ∧
  ∀ (ys : List Str) (p : Addr), ys.Perm xs → sortedS ys = true → H p = none → Q (.ref p) (upd H p (.lst (ys.map V.str)))
theorem cr_srtS {X : Cx} : CallR X (.builtin "sorted") (rSrtS X.K) := by
  intro pins s σ H vs us Q I r h
  obtain ⟨a, xs, rfl, hs, h64, q⟩ := h
  rcases hs with hs | hs
  · exact cr_sortedS pins s σ H _ us Q I r ⟨a, xs, rfl, hs, h64, fun ys p h1 h2 h3 => q ys p h1 h2 h3⟩
  · obtain ⟨its, rv, hl, _⟩ := I.tuple hs
    rw [Vals.ref1 r]
    have len := rv.length
    rw [List.length_map] at len
    refine sorted_tupM hl rv.strs (by rw [← len]; exact h64) fun out ys h1 h2 h3 => ?_
    obtain ⟨ep, he⟩ := sortedAll_at s.heap its out
    have fits : (ys.map V.str).length ≤ sizeLine := by
      rw [List.length_map, h2.length_eq]
      exact small64 h64
    exact ⟨.ref _, upd H (s.heap.objs.size + 1) (.lst (ys.map V.str)), I.laid (t' := s.toks) (fun _ _ => sortedAll_old) (Nat.le_succ _) ⟨fits, out.toList, ep, vals_of_strs h1, he⟩, rfl, q ys _ h2 h3 (I.hok.fresh (Nat.le_succ _))⟩
/-! tuples of ints -/
theorem tups_sortable {prog : Program} {w : World} {A : Around} {s : Shared} {a : Addr} {vs : List Value} {d : Nat} {B : Int} (hd : 1 ≤ d) (h2 : 2 ≤ vs.length) (x : TS.TupsOk s.heap d B vs) (ha : ∀ o, s.heap.get? a = some o → o.cls ≠ .type "tuple") :
    SrtO.SortableO prog w A s a vs (fun u v => decide (TS.code B (TS.intsOf s.heap u) < TS.code B (TS.intsOf s.heap v))) := by
  intro h' keep
  have k : ∀ b o, s.heap.get? b = some o → o.cls = .type "tuple" → h'.get? b = some o := fun b o e c => keep b o (fun z => by subst z; exact ha o e c) e
  have x' : TS.TupsOk h' d B vs := x.keeps k
  obtain ⟨fs, kt, hl, hi⟩ := TS.firsts_of hd vs x'
  refine ⟨tuples' (Value.type "int" != Value.type "tuple"), fun Q E hq => PySem.W.kat_kind (T := Value.type "int") kt (by omega) (fun f hf => ?_) rfl hq, ?_⟩
  · obtain ⟨n, t, rfl⟩ := hi f hf
    exact PySem.W.Looks.of_pure rfl
  · intro p q hp hq
    obtain ⟨ns, tp, lp, bp⟩ := x' _ hp
    obtain ⟨ms, tq, lq, bq⟩ := x' _ hq
    obtain ⟨ns0, tp0, _⟩ := x _ hp
    obtain ⟨ms0, tq0, _⟩ := x _ hq
    have ep : TS.intsOf s.heap p.1 = ns := by
      rw [tp0.ints]
      exact (tp0.keeps k).ints.symm.trans tp.ints
    have eq' : TS.intsOf s.heap q.1 = ms := by
      rw [tq0.ints]
      exact (tq0.keeps k).ints.symm.trans tq.ints
    show wpAny (model prog w) A (keyLt' (tuples' (Value.type "int" != Value.type "tuple")) p.1 q.1) (fun r s' => s' = { s with heap := h' } ∧ r = decide (TS.code B (TS.intsOf s.heap p.1) < TS.code B (TS.intsOf s.heap q.1))) (fun _ _ => False) { s with heap := h' }
    rw [ep, eq']
    obtain ⟨a1, xs, e1, ⟨o, ho, hc, n, hdt⟩, i⟩ := tp
    obtain ⟨a2, ys, e2, ⟨o', ho', hc', n', hdt'⟩, i'⟩ := tq
    rw [e1, e2]
    refine PySem.W.kat_lt (s := { s with heap := h' }) ho hdt ho' hdt' ?_
    have sz : decide (xs.size < ys.size) = false := by
      have l1 := i.length
      have l2 := i'.length
      rw [Array.length_toList] at l1 l2
      exact decide_eq_false (by omega)
    rw [sz]
    exact TS.lex_ints 0 i i' (by omega) bp bq ⟨rfl, rfl⟩
theorem swo_rank {α : Type} (r : α → Int) : SrtO.Swo (fun u v : α => decide (r u < r v)) := by
  refine ⟨fun x y h => ?_, fun x y z h1 h2 => ?_⟩
  · have a := of_decide_eq_true h
    exact decide_eq_false (by omega)
  · have a := of_decide_eq_false h1
    have b := of_decide_eq_false h2
    exact decide_eq_false (by omega)
/-- sorted of a list of tuples of d ints, any number of them -/
def rSrtT (K : PySem.W.Frag) (d : Nat) (B : Int) : List V → Hp → VK → Prop := fun vs H Q => ∃ (a : Addr) (xs : List V), vs = [V.ref a] ∧ SqL K H a xs ∧ (∀ x ∈ xs, ∃ ns, TupI K H x ns ∧ ns.length = d ∧ TS.Bd B ns) ∧
  ∀ (ys : List V) (p : Addr), ys.Perm xs → ys.Pairwise (fun x y => ∀ n m, TupI K H x n → TupI K H y m → TS.code B n ≤ TS.code B m) → H p = none → Q (.ref p) (upd H p (.lst ys))
theorem cr_srtT {X : Cx} {d : Nat} {B : Int} (hd : 1 ≤ d) : CallR X (.builtin "sorted") (rSrtT X.K d B) := by
  intro pins s σ H vs us Q I r h
  obtain ⟨a, xs, rfl, hs, hx, q⟩ := h
  obtain ⟨its, rv, hl, hz⟩ := I.list hs
  rw [Vals.ref1 r]
  obtain ⟨e1, e2⟩ := bkV_refs rv fun x m => by
    obtain ⟨ns, ⟨t, e, _⟩, _⟩ := hx x m
    exact ⟨t, e⟩
  have ok : TS.TupsOk s.heap d B its := fun v hv => by
    obtain ⟨t, rfl⟩ := e2 v hv
    have hm : V.ref t ∈ xs := by
      rw [e1]
      exact List.mem_map.mpr ⟨_, hv, rfl⟩
    obtain ⟨ns, ⟨t', e, ht⟩, hn, hb⟩ := hx _ hm
    cases e
    exact ⟨ns, tupI_raw I ht, hn, hb⟩
  refine SrtO.sorted_ord (ltv := fun u v => decide (TS.code B (TS.intsOf s.heap u) < TS.code B (TS.intsOf s.heap v))) (swo_rank fun u => TS.code B (TS.intsOf s.heap u)) hl.isList (by rw [← rv.length]; exact hz) (fun h2 h₁ a' ha kk => ?_) fun out h1 h2 => ?_
  · have z := tups_sortable (prog := X.prog) (w := X.w) (A := X.A.in1.in1) (s := { s with heap := h₁ }) (a := a') (vs := its) hd h2 (ok.keeps fun b o e _ => (kk b o e).2) (fun o e => by
      have e' : some o = some (seqObj "list" its.toArray 0) := e.symm.trans ha
      cases e'
      intro c
      exact absurd (Value.type.inj c) (by decide))
    have same : ∀ v ∈ its, TS.intsOf h₁ v = TS.intsOf s.heap v := fun v hv => by
      obtain ⟨ns, t, _⟩ := ok v hv
      rw [t.ints, (t.keeps fun b o e _ => (kk b o e).2).ints]
    intro h' keep
    obtain ⟨κ, z1, z2⟩ := z h' keep
    refine ⟨κ, z1, fun p q hp hq => ?_⟩
    have z3 := z2 p q hp hq
    show wpAny (model X.prog X.w) _ (keyLt' κ p.1 q.1) (fun r s' => s' = _ ∧ r = decide (TS.code B (TS.intsOf s.heap p.1) < TS.code B (TS.intsOf s.heap q.1))) (fun _ _ => False) _
    rw [← same _ hp, ← same _ hq]
    exact z3
  · obtain ⟨ep, he'⟩ := PyProof.Rows.sortedAll_at s.heap its out.toArray
    have h3 : ∀ u ∈ out, ∃ a, u = Value.ref a := fun u hu => e2 u (h2.perm.mem_iff.mp hu)
    have hp : (out.map bkV).Perm xs := by
      rw [e1]
      exact h2.perm.map bkV
    have hlen : (out.map bkV).length ≤ sizeLine := by
      rw [hp.length_eq]
      exact hz
    refine ⟨.ref _, upd H (s.heap.objs.size + 1) (.lst (out.map bkV)), I.laid (t' := s.toks) (fun _ _ => PyProof.Rows.sortedAll_old) (Nat.le_succ _) ⟨hlen, out, ep, bkV_vals h3, he'⟩, rfl, q _ _ hp ?_ (I.hok.fresh (Nat.le_succ _))⟩
    rw [List.pairwise_map]
    refine List.Pairwise.imp (fun {u v} huv n m hn hm => ?_) h1
    obtain ⟨t, et, ht⟩ := hn
    obtain ⟨t', et', ht'⟩ := hm
    have eu := bkV_ref et
    have ev := bkV_ref et'
    have i1 : TS.intsOf s.heap u = n := by
      rw [eu]
      exact (tupI_raw I ht).ints
    have i2 : TS.intsOf s.heap v = m := by
      rw [ev]
      exact (tupI_raw I ht').ints
    have z := of_decide_eq_false huv
    rw [i1, i2] at z
    omega
/-! texts by a rank -/
theorem sortedS_rank {r : Str → Int} {D : List Str} (hr : ∀ x ∈ D, ∀ y ∈ D, ltCps x.cps.toList y.cps.toList = decide (r x < r y)) : ∀ {l : List Str}, (∀ x ∈ l, x ∈ D) → sortedS l = true → l.Pairwise (fun x y => r x ≤ r y)
  | [], _, _ => .nil
  | x :: l, hD, h => by
    have go : ∀ (p : Str) (l : List Str), p ∈ D → (∀ x ∈ l, x ∈ D) → risingS p l = true → (p :: l).Pairwise (fun x y => r x ≤ r y) := fun p l => by
      induction l generalizing p with
      | nil => exact fun _ _ _ => List.pairwise_singleton _ _
      | cons y l ih =>
        intro hp hl h
        have h' : (!ltCps y.cps.toList p.cps.toList && risingS y l) = true := h
        rw [Bool.and_eq_true] at h'
        have hy := hl y (List.mem_cons_self ..)
        have t := ih y hy (fun x hx => hl x (List.mem_cons_of_mem _ hx)) h'.2
        have le : r p ≤ r y := by
          have z := h'.1
          rw [hr y hy p hp] at z
          have z' : decide (r y < r p) = false := by simpa using z
          have := of_decide_eq_false z'
          omega
        refine List.pairwise_cons.mpr ⟨fun z hz => ?_, t⟩
        rcases List.mem_cons.mp hz with e | hz
        · rw [e]
          exact le
        · exact Int.le_trans le ((List.pairwise_cons.mp t).1 z hz)
    exact go x l (hD x (List.mem_cons_self ..)) (fun y hy => hD y (List.mem_cons_of_mem _ hy)) h
end Mw
/-! ### spares and samples, as lists -/
namespace Mw
open PySem PySem.Spec PyProof.Rows L2
/-! numbers that are not named -/
def nonm (ds : List Int) (n : Nat) : List Int := ((List.range n).map fun i => Int.ofNat i).filter fun i => !ds.contains i
theorem nonm_succ (ds : List Int) (n : Nat) : nonm ds (n + 1) = nonm ds n ++ (if ds.contains (Int.ofNat n) = true then [] else [Int.ofNat n]) := by
  unfold nonm
  rw [List.range_succ, List.map_append, List.filter_append]
  congr 1
  show List.filter _ [Int.ofNat n] = _
  rw [List.filter_cons]
  cases h : ds.contains (Int.ofNat n) <;> simp
theorem nonm_pre (ds : List Int) (n : Nat) : ∀ k, ∃ r, nonm ds (n + k) = nonm ds n ++ r
  | 0 => ⟨[], by rw [List.append_nil]; rfl⟩
  | k + 1 => by
    obtain ⟨r, e⟩ := nonm_pre ds n k
    exact ⟨_, by rw [← Nat.add_assoc, nonm_succ, e, List.append_assoc]⟩
theorem filter_ne_len {α : Type} [DecidableEq α] (d : α) : ∀ {m : List α}, m.Nodup → m.length ≤ (m.filter fun x => !decide (x = d)).length + 1
  | [], _ => by simp
  | x :: m, h => by
    obtain ⟨h1, h2⟩ := List.nodup_cons.mp h
    rw [List.filter_cons]
    by_cases e : x = d
    · subst e
      have z : m.filter (fun y => !decide (y = x)) = m := List.filter_eq_self.mpr fun y hy => by
        have : y ≠ x := fun z => h1 (z ▸ hy)
        simp [this]
      simp [z]
    · have ih := filter_ne_len d h2
      have t : (!decide (x = d)) = true := by simp [e]
      rw [if_pos t]
      simp only [List.length_cons]
      omega
theorem filter_notin_len : ∀ (ds : List Int) {l : List Int}, l.Nodup → l.length ≤ (l.filter fun i => !ds.contains i).length + ds.length
  | [], l, h => by
    have : l.filter (fun i => !([] : List Int).contains i) = l := List.filter_eq_self.mpr fun x _ => by simp
    rw [this]
    simp
  | d :: ds, l, h => by
    have ih := filter_notin_len ds h
    have e : l.filter (fun i => !(d :: ds).contains i) = (l.filter fun i => !ds.contains i).filter fun x => !decide (x = d) := by
      rw [List.filter_filter]
      refine List.filter_congr fun x _ => ?_
      by_cases z : x = d <;> simp [z]
    have k := filter_ne_len d (h.filter fun i => !ds.contains i)
    rw [e]
    simp only [List.length_cons]
    omega
theorem nonm_len (ds : List Int) (n : Nat) : n ≤ (nonm ds n).length + ds.length := by
  have nd : ((List.range n).map fun i => Int.ofNat i).Nodup := List.Pairwise.map _ (fun a b h e => h (Int.ofNat.inj e)) List.nodup_range
  have := filter_notin_len ds nd
  rw [List.length_map, List.length_range] at this
  exact this
theorem nonm_mem {ds : List Int} {n : Nat} {x : Int} (h : x ∈ nonm ds n) : x ∉ ds ∧ 0 ≤ x ∧ x < n := by
  obtain ⟨h1, h2⟩ := List.mem_filter.mp h
  obtain ⟨i, hi, rfl⟩ := List.mem_map.mp h1
  have := List.mem_range.mp hi
  refine ⟨fun z => ?_, Int.natCast_nonneg _, ?_⟩
  · have : ds.contains (Int.ofNat i) = true := List.contains_iff_mem.mpr z
    rw [this] at h2
    cases h2
  · show (i : Int) < (n : Int)
    omega
theorem nonm_congr {ds es : List Int} (h : ∀ x, x ∈ ds ↔ x ∈ es) (n : Nat) : nonm ds n = nonm es n := by
  unfold nonm
  refine List.filter_congr fun x _ => ?_
  have : ds.contains x = es.contains x := by
    rw [Bool.eq_iff_iff, List.contains_iff_mem, List.contains_iff_mem]
    exact h x
  rw [this]
/-- the k least numbers that are not named -/
def spa (k : Nat) (ds : List Int) : List Int := (nonm ds (ds.length + k)).take k
theorem spa_perm {k : Nat} {ds es : List Int} (p : ds.Perm es) : spa k ds = spa k es := by
  unfold spa
  rw [p.length_eq, nonm_congr fun x => p.mem_iff]
theorem spa_of {k n : Nat} {ds : List Int} (h : (nonm ds n).length = k) : spa k ds = nonm ds n := by
  have l := nonm_len ds n
  obtain ⟨r, e⟩ := nonm_pre ds n (ds.length + k - n)
  unfold spa
  rw [show ds.length + k = n + (ds.length + k - n) by omega, e, List.take_append_of_le_length (by omega), ← h, List.take_length]
theorem spa_len (k : Nat) (ds : List Int) : (spa k ds).length = k := by
  unfold spa
  have := nonm_len ds (ds.length + k)
  rw [List.length_take]
  omega
theorem spa_mem {k : Nat} {ds : List Int} {x : Int} (h : x ∈ spa k ds) : x ∉ ds ∧ 0 ≤ x ∧ x < (ds.length + k : Nat) := nonm_mem (List.mem_of_mem_take h)
/-! ints, ascending -/
def srtI (xs : List Int) : List Int := xs.mergeSort fun a b => decide (a ≤ b)
theorem srtI_perm (xs : List Int) : (srtI xs).Perm xs := List.mergeSort_perm _ _
theorem srtI_asc (xs : List Int) : (srtI xs).Pairwise (· ≤ ·) := by
  have h := List.pairwise_mergeSort (le := fun a b : Int => decide (a ≤ b)) (fun a b c h1 h2 => by simp only [decide_eq_true_eq] at *; omega) (fun a b => by
    simp only [Bool.or_eq_true, decide_eq_true_eq]
    omega) xs
  exact h.imp fun {a b} h => of_decide_eq_true h
theorem srtI_eq {xs ys : List Int} (p : ys.Perm xs) (h : ys.Pairwise (· ≤ ·)) : ys = srtI xs := ints_uniq (p.trans (srtI_perm xs).symm) h (srtI_asc xs)
theorem srtI_congr {xs ys : List Int} (p : ys.Perm xs) : srtI ys = srtI xs := srtI_eq ((srtI_perm ys).trans p) (srtI_asc ys)
theorem asc_lt {l : List Int} (h : l.Pairwise (· ≤ ·)) (nd : l.Nodup) : l.Pairwise (· < ·) := by
  refine List.Pairwise.imp₂ (fun {a b} h1 h2 => ?_) h nd
  omega
/-! packets -/
def pext (ps : List (List Int)) (ns : List Int) : List (List Int) := ps.flatMap fun p => ns.map fun n => p ++ [n]
def pextL (ps : List (List Int)) (ns : List Int) : List (List Int) := ns.flatMap fun n => ps.map fun p => p ++ [n]
def samp (ds ss : List Int) : List (List Int) := ss.foldl (fun ps s => pext ps (srtI (ds ++ [s]))) [[]]
def lawf (ds ss : List Int) : List (List Int) := ss.foldl (fun ps s => pextL ps (ds ++ [s])) [[]]
theorem flatMap_swap {α β γ : Type} (f : α → β → γ) : ∀ (xs : List α) (ys : List β), (xs.flatMap fun x => ys.map (f x)).Perm (ys.flatMap fun y => xs.map fun x => f x y)
  | [], ys => by
    have : (ys.flatMap fun y => ([] : List α).map fun x => f x y) = [] := by simp
    rw [this]
    exact List.Perm.refl _
  | x :: xs, ys => by
    have ih := flatMap_swap f xs ys
    have e : ∀ ys : List β, (ys.flatMap fun y => (x :: xs).map fun x => f x y).Perm (ys.map (f x) ++ ys.flatMap fun y => xs.map fun x => f x y) := fun ys => by
      induction ys with
      | nil => exact List.Perm.refl _
      | cons y ys ih =>
        simp only [List.flatMap_cons, List.map_cons, List.cons_append]
        refine List.Perm.cons _ ?_
        refine (List.Perm.append_left _ ih).trans ?_
        rw [← List.append_assoc, ← List.append_assoc]
        exact List.Perm.append_right _ List.perm_append_comm
    rw [List.flatMap_cons]
    exact (List.Perm.append_left _ ih).trans (e ys).symm
theorem pext_perm {ps qs : List (List Int)} {ns ms : List Int} (hp : ps.Perm qs) (hn : ns.Perm ms) : (pext ps ns).Perm (pextL qs ms) := by
  have a : (pext ps ns).Perm (pextL ps ns) := flatMap_swap (fun p n => p ++ [n]) ps ns
  have b : (pextL ps ns).Perm (pextL ps ms) := List.Perm.flatMap_right _ hn
  have c : ∀ ms : List Int, (pextL ps ms).Perm (pextL qs ms) := fun ms => by
    unfold pextL
    induction ms with
    | nil => exact List.Perm.refl _
    | cons m ms ih =>
      rw [List.flatMap_cons, List.flatMap_cons]
      exact (hp.map _).append ih
  exact (a.trans b).trans (c ms)
theorem samp_lawf (ds : List Int) : ∀ (ss : List Int), (samp ds ss).Perm (lawf ds ss) := by
  have go : ∀ (ss : List Int) (ps qs : List (List Int)), ps.Perm qs → (ss.foldl (fun ps s => pext ps (srtI (ds ++ [s]))) ps).Perm (ss.foldl (fun ps s => pextL ps (ds ++ [s])) qs) := fun ss => by
    induction ss with
    | nil => exact fun ps qs h => h
    | cons s ss ih => exact fun ps qs h => ih _ _ (pext_perm h (srtI_perm _))
  exact fun ss => go ss _ _ (List.Perm.refl _)
theorem samp_perm {ds es ss : List Int} (p : ds.Perm es) : samp ds ss = samp es ss := by
  have e : ∀ s, srtI (ds ++ [s]) = srtI (es ++ [s]) := fun s => srtI_congr (p.append_right _)
  unfold samp
  simp only [e]
theorem code_snoc (B : Int) (n : Int) : ∀ p : List Int, TS.code B (p ++ [n]) = TS.code B p * B + n
  | [] => by simp [TS.code]
  | d :: p => by
    have ih := code_snoc B n p
    show d * B ^ (p ++ [n]).length + TS.code B (p ++ [n]) = (d * B ^ p.length + TS.code B p) * B + n
    rw [ih, List.length_append, List.length_singleton, Int.pow_succ, Int.add_mul, Int.mul_assoc, Int.add_assoc]
def PkOk (B : Int) (d : Nat) (ps : List (List Int)) : Prop := (∀ p ∈ ps, p.length = d ∧ TS.Bd B p) ∧ ps.Pairwise (fun p q => TS.code B p < TS.code B q)
theorem pext_ok {B : Int} {d : Nat} {ps : List (List Int)} {ns : List Int} (h : PkOk B d ps) (hb : TS.Bd B ns) (hn : ns.Pairwise (· < ·)) : PkOk B (d + 1) (pext ps ns) := by
  refine ⟨fun q hq => ?_, ?_⟩
  · obtain ⟨p, hp, hq⟩ := List.mem_flatMap.mp hq
    obtain ⟨n, hn, rfl⟩ := List.mem_map.mp hq
    obtain ⟨h1, h2⟩ := h.1 p hp
    refine ⟨by rw [List.length_append, h1] <;> rfl, fun m hm => ?_⟩
    rcases List.mem_append.mp hm with hm | hm
    · exact h2 m hm
    · rw [List.mem_singleton.mp hm]
      exact hb n hn
  · have h2 := h.2
    clear h
    unfold pext
    induction ps with
    | nil => exact .nil
    | cons p ps ih =>
      rw [List.flatMap_cons]
      obtain ⟨a, b⟩ := List.pairwise_cons.mp h2
      refine List.pairwise_append.mpr ⟨?_, ih b, fun x hx y hy => ?_⟩
      · rw [List.pairwise_map]
        refine hn.imp fun {n m} h => ?_
        rw [code_snoc, code_snoc]
        omega
      · obtain ⟨n, hn', rfl⟩ := List.mem_map.mp hx
        obtain ⟨q, hq, hy⟩ := List.mem_flatMap.mp hy
        obtain ⟨m, hm, rfl⟩ := List.mem_map.mp hy
        rw [code_snoc, code_snoc]
        have l := a q hq
        obtain ⟨n0, n1⟩ := hb n hn'
        obtain ⟨m0, m1⟩ := hb m hm
        have z : (TS.code B p + 1) * B ≤ TS.code B q * B := Int.mul_le_mul_of_nonneg_right (by omega) (by omega)
        rw [Int.add_mul, Int.one_mul] at z
        omega
theorem samp_ok {B : Int} {ds : List Int} (hd : TS.Bd B ds) (nd : ds.Nodup) {ss : List Int} (hs : ∀ s ∈ ss, s ∉ ds ∧ 0 ≤ s ∧ s < B) : PkOk B ss.length (samp ds ss) := by
  have go : ∀ (ss : List Int) (d : Nat) (ps : List (List Int)), (∀ s ∈ ss, s ∉ ds ∧ 0 ≤ s ∧ s < B) → PkOk B d ps → PkOk B (d + ss.length) (ss.foldl (fun ps s => pext ps (srtI (ds ++ [s]))) ps) := fun ss => by
    induction ss with
    | nil => exact fun d ps _ h => h
    | cons s ss ih =>
      intro d ps hs h
      obtain ⟨h1, h2, h3⟩ := hs s (List.mem_cons_self ..)
      have mem : ∀ x ∈ srtI (ds ++ [s]), x ∈ ds ∨ x = s := fun x hx => by
        rcases List.mem_append.mp ((srtI_perm _).mem_iff.mp hx) with z | z
        · exact .inl z
        · exact .inr (List.mem_singleton.mp z)
      have nd' : (srtI (ds ++ [s])).Nodup := (srtI_perm _).nodup_iff.mpr (List.nodup_append.mpr ⟨nd, by simp, fun a ha b hb e => by
        rw [List.mem_singleton.mp hb] at e
        exact h1 (e ▸ ha)⟩)
      have k := ih (d + 1) _ (fun t ht => hs t (List.mem_cons_of_mem _ ht)) (pext_ok h (fun x hx => (mem x hx).elim (fun z => hd x z) fun z => z ▸ ⟨h2, h3⟩) (asc_lt (srtI_asc _) nd'))
      rw [List.length_cons, show d + (ss.length + 1) = d + 1 + ss.length by omega]
      exact k
  have := go ss 0 [[]] hs ⟨fun p hp => by
    rw [List.mem_singleton.mp hp]
    exact ⟨rfl, fun m hm => nomatch hm⟩, List.pairwise_singleton _ _⟩
  rw [Nat.zero_add] at this
  exact this
theorem pext_len (ps : List (List Int)) (ns : List Int) : (pext ps ns).length = ps.length * ns.length := by
  unfold pext
  induction ps with
  | nil => simp
  | cons p ps ih => rw [List.flatMap_cons, List.length_append, ih, List.length_map, List.length_cons, Nat.add_mul, Nat.one_mul, Nat.add_comm]
theorem samp_len (ds : List Int) (ss : List Int) : (samp ds ss).length = (ds.length + 1) ^ ss.length := by
  have go : ∀ (ss : List Int) (ps : List (List Int)), (ss.foldl (fun ps s => pext ps (srtI (ds ++ [s]))) ps).length = ps.length * (ds.length + 1) ^ ss.length := fun ss => by
    induction ss with
    | nil => intro ps; simp
    | cons s ss ih =>
      intro ps
      rw [List.foldl_cons, ih, pext_len, (srtI_perm _).length_eq, List.length_append, List.length_singleton, List.length_cons, Nat.pow_succ, Nat.mul_assoc, Nat.mul_comm (ds.length + 1)]
  have := go ss [[]]
  simpa [samp] using this
theorem code_inj {B : Int} : ∀ {p q : List Int}, p.length = q.length → TS.Bd B p → TS.Bd B q → TS.code B p = TS.code B q → p = q
  | [], [], _, _, _, _ => rfl
  | [], _ :: _, h, _, _, _ => by cases h
  | _ :: _, [], h, _, _, _ => by cases h
  | d :: p, e :: q, h, hp, hq, hc => by
    have l : p.length = q.length := Nat.succ.inj h
    rcases Int.lt_trichotomy d e with z | z | z
    · have := TS.code_lt l hp.tail hq.tail z
      omega
    · subst z
      have : TS.code B p = TS.code B q := by
        have c : d * B ^ p.length + TS.code B p = d * B ^ q.length + TS.code B q := hc
        rw [l] at c
        omega
      rw [code_inj l hp.tail hq.tail this]
    · have := TS.code_lt l.symm hq.tail hp.tail z
      omega
end Mw
/-! ### list(zip(a tuple, a list)), both of one length, not empty -/
namespace Mw
open PySem PySem.Spec PyProof PyProof.Rows L2
theorem zip_no_len : typeLookup (.type "zip") "__len__" = pure none := am_miss_of_fast (by decide +kernel)
theorem zip_no_hint : typeLookup (.type "zip") "__length_hint__" = pure none := am_miss_of_fast (by decide +kernel)
/-- the cells lie apart -/
structure ZAp (z TI TO i1 i2 l1 l2 S : Addr) : Prop where
  sep : ZipSep2 z TI TO i1 i2 [i1, l1] [i2, l2]
  l1i1 : l1 ≠ i1
  l2i2 : l2 ≠ i2
  Sz : S ≠ z
  STI : S ≠ TI
  STO : S ≠ TO
  Si1 : S ≠ i1
  Si2 : S ≠ i2
  Sl1 : S ≠ l1
  Sl2 : S ≠ l2
def ZSt (h : Heap) (z TI TO i1 i2 l1 l2 S : Addr) (xs ys : Array Value) (i : Nat) : Prop :=
  IsTupOf2 h TI (.ref i1) (.ref i2) ∧ (h.IsTupleIter i1 l1 i ∧ h.IsTuple l1 xs) ∧ (h.IsListIter i2 l2 i ∧ h.IsList l2 ys) ∧
    ((i = 0 ∧ IsZip h z TI TO .none ∧ ∃ a b, IsTupOf2 h TO a b) ∨ ∃ (T : Addr) (f : Bool) (oT : Obj), IsZipHeld h z TI TO T f ∧ h.get? T = some oT ∧ T ≠ z ∧ T ≠ i1 ∧ T ≠ i2 ∧ T ≠ S)
section
variable {prog : Program} {w : World} {A : Around} {E : Value → Shared → Prop} {s : Shared} {z TI TO i1 i2 l1 l2 S : Addr} {xs ys : Array Value} {i : Nat}
theorem zt_item_held {T : Addr} {f : Bool} {oT : Obj} {x y : Value} {Q : Value → Shared → Prop} (D : ZAp z TI TO i1 i2 l1 l2 S)
    (hz : IsZipHeld s.heap z TI TO T f) (hT : s.heap.get? T = some oT) (hTI : IsTupOf2 s.heap TI (.ref i1) (.ref i2))
    (h1 : s.heap.IsTupleIter i1 l1 i) (h2 : s.heap.IsListIter i2 l2 i) (hl1 : s.heap.IsTuple l1 xs) (hl2 : s.heap.IsList l2 ys) (hx : xs[i]? = some x) (hy : ys[i]? = some y)
    (hQ : ∀ h', IsZipHeld h' z TI TO T true → h'.IsTupleIter i1 l1 (i + 1) → h'.IsListIter i2 l2 (i + 1) → IsTupOf2 h' s.heap.objs.size x y → h'.objs.size = s.heap.objs.size + 1 →
      (∀ c o, c ≠ z → c ≠ i1 → c ≠ i2 → s.heap.get? c = some o → h'.get? c = some o) → Q (.ref s.heap.objs.size) { s with heap := h' }) :
    wpAny (model prog w) A (Builtin.«zip.__next__» ⟨[.ref z], []⟩) (fun fin s' => ∃ v, fin = .done (.ret v) ∧ Q v s') E s := by
  have n1 : i1 ≠ z := fun e => D.sep.zi1 e.symm
  have n2 : i2 ≠ z := fun e => D.sep.zi2 e.symm
  have n12 : i1 ≠ i2 := fun e => D.sep.sep1_2 (by rw [e]; exact List.mem_cons_self ..)
  have nl1 : l1 ≠ z := fun e => D.sep.zf1 (by rw [← e]; simp)
  have nl2 : l2 ≠ z := fun e => D.sep.zf2 (by rw [← e]; simp)
  have nl21 : l2 ≠ i1 := fun e => D.sep.sep1_2 (by rw [← e]; simp)
  show wpAny _ _ (field (.ref z) 2 >>= _) _ _ _
  refine wpAny_bind (wpAny_field hz rfl (x := .bool false) rfl ?_)
  show wpAny _ _ (field (.ref z) 3 >>= _) _ _ _
  refine wpAny_bind (wpAny_field hz rfl (x := .ref TI) rfl ?_)
  refine wpAny_bind (wpAny_seqItems hTI rfl ?_)
  show wpAny _ _ (Builtin.SmallTypes.ownedTupleIsFree (.ref z) >>= _) _ _ _
  refine wpAny_bind (wpAny_tupleHeld_zip hz hT fun h₁ hz₁ hs₁ => ?_)
  simp only [Bool.false_eq_true, if_false]
  refine wpAny_bind ?_
  rw [← Array.forIn_toList]
  simp only [List.forIn_cons, List.forIn_nil]
  refine wpAny_bind (wpAny_bind (wpAny_holding ?_))
  show wpAny _ _ (Builtin.SmallTypes.nextOf (.ref i1) >>= _) _ _ _
  refine wpAny_bind (wpAny_nextOf_tuple_item (s := { s with heap := h₁ }) (h1.extBut hs₁.extBut n1) (hl1.extBut hs₁.extBut nl1) hx fun h₂ h1₂ hs₂ => wpAny_pure ?_)
  refine wpAny_pure ?_
  refine wpAny_bind (wpAny_bind (wpAny_holding ?_))
  show wpAny _ _ (Builtin.SmallTypes.nextOf (.ref i2) >>= _) _ _ _
  refine wpAny_bind (wpAny_nextOf_list_item (s := { s with heap := h₂ }) ((h2.extBut hs₁.extBut n2).extBut hs₂.extBut n12.symm) ((hl2.extBut hs₁.extBut nl2).extBut hs₂.extBut nl21) hy fun h₃ h2₃ hs₃ => wpAny_pure ?_)
  refine wpAny_pure (wpAny_pure ?_)
  show wpAny _ _ (newTuple [x, y] >>= _) _ _ _
  refine wpAny_bind (wpAny_newTuple ?_)
  have hsz : h₃.objs.size = s.heap.objs.size := by rw [hs₃.1, hs₂.1, hs₁.1]
  have hz₃ : IsZipHeld h₃ z TI TO T true := hs₃.extBut _ _ n2.symm (hs₂.extBut _ _ n1.symm hz₁)
  have hk : ∀ c o, c ≠ z → c ≠ i1 → c ≠ i2 → s.heap.get? c = some o → h₃.get? c = some o := fun c o c1 c2 c3 e => hs₃.extBut _ _ c3 (hs₂.extBut _ _ c2 (hs₁.extBut _ _ c1 e))
  have h1₃ : h₃.IsTupleIter i1 l1 (i + 1) := h1₂.extBut hs₃.extBut n12
  refine wpAny_pure ⟨_, rfl, ?_⟩
  show Q (.ref h₃.objs.size) _
  have hp : IsTupOf2 (h₃.push { cls := .type "tuple", data := .seq #[x, y] }) h₃.objs.size x y := Heap.get?_push_size _ rfl
  have hz4 : (h₃.push { cls := .type "tuple", data := .seq #[x, y] }).objs.size = h₃.objs.size + 1 := Heap.size_push ..
  rw [hsz] at hp hz4 ⊢
  exact hQ _ (Heap.get?_push_of_some _ hz₃) (h1₃.at fun o e => Heap.get?_push_of_some _ e) (h2₃.at fun o e => Heap.get?_push_of_some _ e) hp hz4 fun c o c1 c2 c3 e => Heap.get?_push_of_some _ (hk c o c1 c2 c3 e)
theorem zt_end_held {T : Addr} {f : Bool} {oT : Obj} {Q : Fin → Shared → Prop} (hh : A.handled = none) (D : ZAp z TI TO i1 i2 l1 l2 S)
    (hz : IsZipHeld s.heap z TI TO T f) (hT : s.heap.get? T = some oT) (hTI : IsTupOf2 s.heap TI (.ref i1) (.ref i2))
    (h1 : s.heap.IsTupleIter i1 l1 i) (hl1 : s.heap.IsTuple l1 xs) (hend : xs[i]? = none)
    (hE : ∀ h' e, (∀ c o, c ≠ z → c ≠ i1 → c ≠ i2 → s.heap.get? c = some o → h'.get? c = some o) → (∃ o, h'.get? e = some o ∧ o.cls = .type "StopIteration") → E (.ref e) { s with heap := h' }) :
    wpAny (model prog w) A (Builtin.«zip.__next__» ⟨[.ref z], []⟩) Q E s := by
  have n1 : i1 ≠ z := fun e => D.sep.zi1 e.symm
  have nl1 : l1 ≠ z := fun e => D.sep.zf1 (by rw [← e]; simp)
  show wpAny _ _ (field (.ref z) 2 >>= _) _ _ _
  refine wpAny_bind (wpAny_field hz rfl (x := .bool false) rfl ?_)
  show wpAny _ _ (field (.ref z) 3 >>= _) _ _ _
  refine wpAny_bind (wpAny_field hz rfl (x := .ref TI) rfl ?_)
  refine wpAny_bind (wpAny_seqItems hTI rfl ?_)
  show wpAny _ _ (Builtin.SmallTypes.ownedTupleIsFree (.ref z) >>= _) _ _ _
  refine wpAny_bind (wpAny_tupleHeld_zip hz hT fun h₁ hz₁ hs₁ => ?_)
  simp only [Bool.false_eq_true, if_false]
  refine wpAny_bind ?_
  rw [← Array.forIn_toList]
  simp only [List.forIn_cons, List.forIn_nil]
  refine wpAny_bind (wpAny_bind (wpAny_holding ?_))
  show wpAny _ _ (Builtin.SmallTypes.nextOf (.ref i1) >>= _) _ _ _
  refine wpAny_bind (wpAny_nextOf_tuple_end (s := { s with heap := h₁ }) hh (h1.extBut hs₁.extBut n1) (hl1.extBut hs₁.extBut nl1) hend fun h₂ e hs₂ he => ?_)
  exact hE h₂ e (fun c o c1 c2 _ x => hs₂ _ _ c2 (hs₁.extBut _ _ c1 x)) he
theorem zt_next {x y : Value} {Q : Option Value → Shared → Prop} (hh : A.handled = none) (D : ZAp z TI TO i1 i2 l1 l2 S) (st : ZSt s.heap z TI TO i1 i2 l1 l2 S xs ys i) (hS : S < s.heap.objs.size) (hx : xs[i]? = some x) (hy : ys[i]? = some y)
    (hQ : ∀ h' tk, ZSt h' z TI TO i1 i2 l1 l2 S xs ys (i + 1) → IsTupOf2 h' s.heap.objs.size x y → h'.objs.size = s.heap.objs.size + 1 →
      (∀ c o, c ≠ z → c ≠ TO → c ≠ i1 → c ≠ i2 → s.heap.get? c = some o → h'.get? c = some o) → Q (some (.ref s.heap.objs.size)) { s with heap := h', toks := tk }) :
    wpAny (model prog w) A (pyNext (.ref z)) Q E s := by
  obtain ⟨hTI, ⟨h1, hl1⟩, ⟨h2, hl2⟩, st⟩ := st
  have n1 : i1 ≠ z := fun e => D.sep.zi1 e.symm
  have n2 : i2 ≠ z := fun e => D.sep.zi2 e.symm
  have nl1 : l1 ≠ z := fun e => D.sep.zf1 (by rw [← e]; simp)
  have nl2 : l2 ≠ z := fun e => D.sep.zf2 (by rw [← e]; simp)
  have nlT1 : l1 ≠ TO := fun e => D.sep.Tf1 (by rw [← e]; simp)
  have nlT2 : l2 ≠ TO := fun e => D.sep.Tf2 (by rw [← e]; simp)
  have nl21 : l2 ≠ i1 := fun e => D.sep.sep1_2 (by rw [← e]; simp)
  have nl12 : l1 ≠ i2 := fun e => D.sep.sep2_1 (by rw [← e]; simp)
  have hlt : ∀ {a : Addr} {o : Obj}, s.heap.get? a = some o → s.heap.objs.size ≠ a := fun e => Nat.ne_of_gt (Heap.lt_size e)
  obtain ⟨o1, e1, _⟩ := id h1
  obtain ⟨o2, e2, _⟩ := id h2
  have lx : i < xs.size := (Array.getElem?_eq_some_iff.mp hx).1
  have ly : i < ys.size := (Array.getElem?_eq_some_iff.mp hy).1
  rcases st with ⟨rfl, hz, a, b, hTO⟩ | ⟨T, f, oT, hz, hT, nT1, nT2, nT3, nT4⟩
  · refine wpAny_pyNext_zipD2_item (s := s) D.sep (Draws.tuple (A := A.in1) hh i1 l1 D.l1i1 xs) (Draws.list (A := A.in1) hh i2 l2 D.l2i2 ys) hz hTI hTO ⟨h1, hl1⟩ ⟨h2, hl2⟩ lx ly fun x1 x2 h' tk p1 p2 hz' hTO' s1 s2 hp hsz hk => ?_
    have q1 : xs[0]? = some x1 := p1
    have q2 : ys[0]? = some x2 := p2
    rw [hx] at q1
    rw [hy] at q2
    cases q1
    cases q2
    exact hQ h' tk ⟨hk _ _ D.sep.TIz D.sep.TITO D.sep.TIi1 D.sep.TIi2 hTI, s1, s2, .inr ⟨_, false, _, hz', hp, hlt hz, hlt e1, hlt e2, Nat.ne_of_gt hS⟩⟩ hp hsz hk
  · have hTy : s.TypeIs (.ref z) "zip" := ⟨_, hz, rfl⟩
    unfold pyNext
    refine wpAny_bind (wpAny_attempt (wpAny_callSpecial?_slot (name := Str.ofString "__next__") hTy F.slot_zip_next
      (wpAny_call_entry F.slot_zip_next hTy F.entry_zip_next
        (zt_item_held D hz hT hTI h1 h2 hl1 hl2 hx hy fun h' a1 a3 a4 a5 a6 a7 => wpAny_pure ?_) (F.args_zip_next_1 _))))
    exact hQ h' s.toks ⟨a7 _ _ D.sep.TIz D.sep.TIi1 D.sep.TIi2 hTI, ⟨a3, hl1.at fun o e => a7 _ _ nl1 D.l1i1 nl12 e⟩, ⟨a4, hl2.at fun o e => a7 _ _ nl2 nl21 D.l2i2 e⟩, .inr ⟨T, true, oT, a1, a7 _ _ nT1 nT2 nT3 hT, nT1, nT2, nT3, nT4⟩⟩ a5 a6 fun c o c1 _ c3 c4 e => a7 c o c1 c3 c4 e
theorem zt_done {Q : Option Value → Shared → Prop} (hh : A.handled = none) (D : ZAp z TI TO i1 i2 l1 l2 S) (st : ZSt s.heap z TI TO i1 i2 l1 l2 S xs ys i) (h0 : i ≠ 0) (hx : xs[i]? = none)
    (hQ : ∀ h', (∀ c o, c ≠ z → c ≠ i1 → c ≠ i2 → s.heap.get? c = some o → h'.get? c = some o) → Q none { s with heap := h' }) :
    wpAny (model prog w) A (pyNext (.ref z)) Q E s := by
  obtain ⟨hTI, ⟨h1, hl1⟩, ⟨h2, hl2⟩, st⟩ := st
  rcases st with ⟨e, _⟩ | ⟨T, f, oT, hz, hT, nT1, nT2, nT3, nT4⟩
  · exact absurd e h0
  · have hTy : s.TypeIs (.ref z) "zip" := ⟨_, hz, rfl⟩
    unfold pyNext
    refine wpAny_bind (wpAny_attempt (wpAny_callSpecial?_slot (name := Str.ofString "__next__") hTy F.slot_zip_next
      (wpAny_call_entry F.slot_zip_next hTy F.entry_zip_next (zt_end_held hh D hz hT hTI h1 hl1 hx fun h' e hk he => ?_) (F.args_zip_next_1 _))))
    obtain ⟨o, ho, hc⟩ := he
    refine wpAny_bind (wpAny_isInstance (T := "StopIteration") (b := true) ⟨o, ho, hc⟩ isSubtype_stop ?_)
    exact wpAny_pure (hQ _ hk)
/-- the pairs that were made so far -/
structure ZG (xs ys : Array Value) (lo : Addr) (h : Heap) (as : List Addr) : Prop where
  rise : as.Pairwise (· < ·)
  above : ∀ a ∈ as, lo < a
  pairs : ∀ (j : Nat) (a : Addr), as[j]? = some a → ∃ x y, xs[j]? = some x ∧ ys[j]? = some y ∧ IsTupOf2 h a x y
theorem ZG.there {lo : Addr} {h : Heap} {as : List Addr} (g : ZG xs ys lo h as) {a : Addr} (ha : a ∈ as) : a < h.objs.size := by
  obtain ⟨j, hj⟩ := List.mem_iff_getElem?.mp ha
  obtain ⟨_, _, _, _, e⟩ := g.pairs j a hj
  exact Heap.lt_size e
end
section
variable {prog : Program} {w : World} {A : Around} {s : Shared} {R : Result → Shared → Prop} {z TI TO i1 i2 l1 l2 S : Addr} {xs ys : Array Value}
theorem ZSt.keep {h h' : Heap} {i : Nat} (D : ZAp z TI TO i1 i2 l1 l2 S) (st : ZSt h z TI TO i1 i2 l1 l2 S xs ys i) (k : ∀ b o, b ≠ S → h.get? b = some o → h'.get? b = some o) : ZSt h' z TI TO i1 i2 l1 l2 S xs ys i := by
  obtain ⟨hTI, ⟨h1, hl1⟩, ⟨h2, hl2⟩, st⟩ := st
  refine ⟨k _ _ D.STI.symm hTI, ⟨h1.at fun o e => k _ _ D.Si1.symm e, hl1.at fun o e => k _ _ D.Sl1.symm e⟩, ⟨h2.at fun o e => k _ _ D.Si2.symm e, hl2.at fun o e => k _ _ D.Sl2.symm e⟩, ?_⟩
  rcases st with ⟨rfl, hz, a, b, hTO⟩ | ⟨T, f, oT, hz, hT, n1, n2, n3, n4⟩
  · exact .inl ⟨rfl, k _ _ D.Sz.symm hz, a, b, k _ _ D.STO.symm hTO⟩
  · exact .inr ⟨T, f, oT, k _ _ D.Sz.symm hz, k _ _ n4 hT, n1, n2, n3, n4⟩
theorem zt_loop (hh : A.handled = none) (D : ZAp z TI TO i1 i2 l1 l2 S) (hxy : xs.size = ys.size) (hn : xs.size ≤ sizeLine) (h1 : 1 ≤ xs.size) (low : z < S ∧ TO < S ∧ i1 < S ∧ i2 < S) (res : Value) {h₁ : Heap}
    (hR : ∀ h' tk acc c as, (∀ b o, b ≠ S → b ≠ z → b ≠ TO → b ≠ i1 → b ≠ i2 → h₁.get? b = some o → h'.get? b = some o) → h'.get? S = some { cls := .type "list", dict := none, data := .seq acc c, slots := #[] } → as.length = xs.size → ZG xs ys S h' as →
      acc.toList = as.map Value.ref → R (.ok (.ret res)) { s with heap := h', toks := tk }) :
    ∀ (k i : Nat) (h : Heap) (tk c : Nat) (acc : Array Value) (as : List Addr), xs.size - i = k → i ≤ xs.size → ZSt h z TI TO i1 i2 l1 l2 S xs ys i → (∀ b o, b ≠ S → b ≠ z → b ≠ TO → b ≠ i1 → b ≠ i2 → h₁.get? b = some o → h.get? b = some o) →
      h.get? S = some { cls := .type "list", dict := none, data := .seq acc c, slots := #[] } → acc.toList = as.map Value.ref → as.length = i → ZG xs ys S h as →
      codeAny (model prog w) A (.builtin "list.extend.loop" ⟨[.ref S, .ref z, res], []⟩) R { s with heap := h, toks := tk } := by
  intro k
  induction k with
  | zero =>
    intro i h tk c acc as hk hi hst hkeep hS hacc hal hG
    refine codeAny_builtin PySem.F.entry_extend_loop ?_
    rw [Around.under_plainId PySem.F.plain_extend_loop _]
    show wpAny _ A.in1 (pyNext (.ref z) >>= _) _ _ _
    refine wpAny_bind (zt_done (s := { s with heap := h, toks := tk }) (A := A.in1) hh D hst (by omega) (Array.getElem?_eq_none (by omega)) fun h' he => ?_)
    have up : ∀ b o, b ≠ z → b ≠ i1 → b ≠ i2 → h.get? b = some o → h'.get? b = some o := he
    refine wpAny_pure (hR h' tk acc c as (fun b o n1 n2 n3 n4 n5 e => up b o n2 n4 n5 (hkeep b o n1 n2 n3 n4 n5 e)) (up S _ D.Sz D.Si1 D.Si2 hS) (by omega) ⟨hG.rise, hG.above, fun j a hj => ?_⟩ hacc)
    obtain ⟨x, y, e1, e2, e3⟩ := hG.pairs j a hj
    have ab := hG.above a (List.mem_of_getElem? hj)
    exact ⟨x, y, e1, e2, up a _ (Nat.ne_of_gt (Nat.lt_trans low.1 ab)) (Nat.ne_of_gt (Nat.lt_trans low.2.2.1 ab)) (Nat.ne_of_gt (Nat.lt_trans low.2.2.2 ab)) e3⟩
  | succ k ih =>
    intro i h tk c acc as hk hi hst hkeep hS hacc hal hG
    have hlt : i < xs.size := by omega
    have hx : xs[i]? = some xs[i] := Array.getElem?_eq_getElem hlt
    have hlt2 : i < ys.size := by omega
    have hy : ys[i]? = some ys[i] := Array.getElem?_eq_getElem hlt2
    have hsz : acc.size = i := by rw [← Array.length_toList, hacc, List.length_map, hal]
    have hSl : S < h.objs.size := Heap.lt_size hS
    refine codeAny_builtin PySem.F.entry_extend_loop ?_
    rw [Around.under_plainId PySem.F.plain_extend_loop _]
    show wpAny _ A.in1 (pyNext (.ref z) >>= _) _ _ _
    refine wpAny_bind (zt_next (s := { s with heap := h, toks := tk }) (A := A.in1) hh D hst hSl hx hy fun h' tk' hst' ht hz hkp => ?_)
    dsimp only at ht hz hkp ⊢
    have hS' := hkp S _ D.Sz D.STO D.Si1 D.Si2 hS
    have up : ∀ b o, b ≠ S → h'.get? b = some o → (h'.update S (Obj.mapSeq (·.push (Value.ref h.objs.size)))).get? b = some o := fun b o hb e => (Heap.get?_update_other _ _ (Ne.symm hb)).trans e
    have hi : ∀ b, S < b → b ≠ z ∧ b ≠ TO ∧ b ≠ i1 ∧ b ≠ i2 := fun b hb => ⟨Nat.ne_of_gt (Nat.lt_trans low.1 hb), Nat.ne_of_gt (Nat.lt_trans low.2.1 hb), Nat.ne_of_gt (Nat.lt_trans low.2.2.1 hb), Nat.ne_of_gt (Nat.lt_trans low.2.2.2 hb)⟩
    show wpAny _ A.in1 (updateSeq S (·.push (Value.ref h.objs.size)) >>= _) _ _ _
    refine wpAny_bind ?_
    refine wpAny_updateSeq hS' rfl (wpAny_pure ⟨plainId_quiet PySem.F.plain_extend_loop _, ih (i + 1) _ tk' _ (acc.push (Value.ref h.objs.size)) (as ++ [h.objs.size]) (by omega) hlt (hst'.keep D up)
      (fun b o n1 n2 n3 n4 n5 e => up b o n1 (hkp b o n2 n3 n4 n5 (hkeep b o n1 n2 n3 n4 n5 e))) (Heap.get?_update_self _ hS' rfl) (by rw [Array.toList_push, hacc, List.map_append]; rfl) (by rw [List.length_append, hal]; rfl) ⟨?_, ?_, ?_⟩⟩) (by rw [hsz]; omega) (by show (acc.push (Value.ref h.objs.size)).size ≤ sizeLine + 1; rw [Array.size_push, hsz]; omega)
    · refine List.pairwise_append.mpr ⟨hG.rise, List.pairwise_singleton _ _, fun a ha b hb => ?_⟩
      rw [List.mem_singleton.mp hb]
      exact hG.there ha
    · intro a ha
      rcases List.mem_append.mp ha with ha | ha
      · exact hG.above a ha
      · rw [List.mem_singleton.mp ha]; exact hSl
    · intro j b hj
      rcases Nat.lt_trichotomy j as.length with h1 | h1 | h1
      · rw [List.getElem?_append_left h1] at hj
        obtain ⟨x', y', e1, e2, e3⟩ := hG.pairs j b hj
        have hb := hG.above b (List.mem_of_getElem? hj)
        obtain ⟨m1, m2, m3, m4⟩ := hi b hb
        exact ⟨x', y', e1, e2, up b _ (Nat.ne_of_gt hb) (hkp b _ m1 m2 m3 m4 e3)⟩
      · subst h1
        have hb : h.objs.size = b := by simpa using hj
        subst hb
        exact ⟨_, _, by rw [hal]; exact hx, by rw [hal]; exact hy, up _ _ (Nat.ne_of_gt hSl) ht⟩
      · have hnone : (as ++ [h.objs.size])[j]? = none := List.getElem?_eq_none (by rw [List.length_append, List.length_singleton]; omega)
        rw [hnone] at hj; cases hj
end
end Mw
namespace Mw
open PySem PySem.Spec PyProof PyProof.Rows L2
section
variable {prog : Program} {w : World} {A : Around} {E : Value → Shared → Prop} {s : Shared} {z TI TO i1 i2 l1 l2 : Addr} {xs ys : Array Value}
theorem ZSt.zip {h : Heap} {S : Addr} {i : Nat} (st : ZSt h z TI TO i1 i2 l1 l2 S xs ys i) : ∃ f0 f1, h.get? z = some { cls := .type "zip", dict := none, data := .fields #[f0, f1, .bool false, .ref TI, .ref TO], slots := #[] } := by
  obtain ⟨_, _, _, st⟩ := st
  rcases st with ⟨_, hz, _⟩ | ⟨T, f, _, hz, _⟩
  · exact ⟨_, _, hz⟩
  · exact ⟨_, _, hz⟩
theorem zt_init {R : Result → Shared → Prop} {S : Addr} (hh : A.handled = none) (D : ZAp z TI TO i1 i2 l1 l2 S) (hxy : xs.size = ys.size) (hn : xs.size ≤ sizeLine) (h1 : 1 ≤ xs.size) (low : z < S ∧ TO < S ∧ i1 < S ∧ i2 < S)
    (st : ZSt s.heap z TI TO i1 i2 l1 l2 S xs ys 0) (hz : IsZip s.heap z TI TO .none) (hS : s.heap.get? S = some { cls := .type "list", data := .seq #[] })
    (hR : ∀ h' tk acc c as, (∀ b o, b ≠ S → b ≠ z → b ≠ TO → b ≠ i1 → b ≠ i2 → s.heap.get? b = some o → h'.get? b = some o) → h'.get? S = some { cls := .type "list", dict := none, data := .seq acc c, slots := #[] } → as.length = xs.size → ZG xs ys S h' as →
      acc.toList = as.map Value.ref → R (.ok (.ret .none)) { s with heap := h', toks := tk }) :
    wpAny (model prog w) A.in1 (Builtin.«list.__init__» ⟨[.ref S, .ref z], []⟩)
      (fun fin s' => match fin with | .done f => R (.ok f) s' | .again c' => c'.quiet = true ∧ codeAny (model prog w) A c' R s') (fun e s' => R (.error e) s') s := by
  show wpAny _ _ (do let old ← Builtin.List.listItems (.ref S); Builtin.List.listUpdate (.ref S) (fun _ => #[]); letGo old.toList.reverse; Builtin.List.listExtendWith (.ref S) (.ref z) .none) _ _ s
  refine wpAny_bind ?_
  unfold Builtin.List.listItems
  refine wpAny_bind (wpAny_seqItems hS rfl (wpAny_pure ?_))
  show wpAny _ _ (updateSeq S (fun _ => #[]) >>= fun _ => letGo (#[] : Array Value).toList.reverse >>= fun _ => Builtin.List.listExtendWith (.ref S) (.ref z) .none) _ _ s
  refine wpAny_bind (wpAny_updateSeq hS rfl ?_)
  have hS₂ := Heap.get?_update_self (Obj.mapSeq (fun _ => (#[] : Array Value))) hS rfl
  have oth : ∀ b o, b ≠ S → s.heap.get? b = some o → (s.heap.update S (Obj.mapSeq (fun _ => (#[] : Array Value)))).get? b = some o :=
    fun b o hb e => (Heap.get?_update_other _ _ (Ne.symm hb)).trans e
  refine wpAny_bind (wpAny_letGo ?_)
  generalize hh2 : s.heap.update S (Obj.mapSeq (fun _ => (#[] : Array Value))) = h₂ at hS₂ oth
  have st₂ : ZSt h₂ z TI TO i1 i2 l1 l2 S xs ys 0 := st.keep D oth
  have hz₂ : IsZip h₂ z TI TO .none := oth _ _ D.Sz.symm hz
  have hT : ({ s with heap := h₂ } : Shared).TypeIs (.ref z) "zip" := ⟨_, hz₂, rfl⟩
  unfold Builtin.List.listExtendWith
  refine wpAny_bind (wpAny_typeOf hT ?_)
  have e1 : Builtin.List.listSameRef (.ref S) (.ref z) = false := by simp [Builtin.List.listSameRef, D.Sz]
  have e2 : (Value.type "zip" == Value.type "list") = false := by decide
  have e3 : (Value.type "zip" == Value.type "tuple") = false := by decide
  simp only [e1, e2, e3, Bool.or_false, Bool.false_eq_true, if_false]
  refine wpAny_bind (wpAny_pyIter_zip hz₂ ?_)
  refine wpAny_bind (wpAny_holding ?_)
  unfold Builtin.List.listLengthHint
  refine wpAny_bind (wpAny_specialOf hT zip_no_len ?_)
  show wpAny _ A.in1 (specialOf (Value.ref z) (Str.ofString "__length_hint__") >>= _) _ _ _
  refine wpAny_bind (wpAny_specialOf hT zip_no_hint ?_)
  refine wpAny_pure ?_
  show wpAny _ A.in1 (rule "list.extend.makes-room" >>= fun _ => Builtin.List.listTouch (.ref S) >>= fun _ =>
    again (.builtin "list.extend.loop" ⟨[.ref S, .ref z, .none], []⟩)) _ _ _
  refine wpAny_bind (wpAny_rule ?_)
  refine wpAny_bind ?_
  show wpAny _ A.in1 (updateSeq S (·.push .none) >>= fun _ => updateSeq S (·.pop)) _ _ _
  refine wpAny_bind (wpAny_updateSeq hS₂ rfl ?_)
  have hS₃ := Heap.get?_update_self (Obj.mapSeq (·.push Value.none)) hS₂ rfl
  refine wpAny_updateSeq (hz := by seq_fits) hS₃ rfl ?_
  have hS₄ := Heap.get?_update_self (Obj.mapSeq (·.pop)) hS₃ rfl
  have oth2 : ∀ b o, b ≠ S → h₂.get? b = some o → ((h₂.update S (Obj.mapSeq (·.push Value.none))).update S (Obj.mapSeq (·.pop))).get? b = some o :=
    fun b o hb e => (Heap.get?_update_other _ _ (Ne.symm hb)).trans ((Heap.get?_update_other _ _ (Ne.symm hb)).trans e)
  refine wpAny_pure ⟨plainId_quiet PySem.F.plain_extend_loop _, zt_loop (h₁ := s.heap) (s := { s with heap := h₂ }) (xs := xs) (ys := ys) hh D hxy hn h1 low .none (fun h' tk acc c as k hS' hl hG hacc => hR h' tk acc c as k hS' hl hG hacc) xs.size 0 _ _ _ #[] [] (Nat.sub_zero _) (Nat.zero_le _) (st₂.keep D oth2) (fun b o n1 _ _ _ _ e => oth2 b o n1 (oth b o n1 e)) hS₄ rfl rfl ⟨List.Pairwise.nil, (fun _ ha => nomatch ha), (fun j a hj => by simp at hj)⟩⟩
theorem zt_call {Q : Value → Shared → Prop} (hh : A.handled = none) (D : ZAp z TI TO i1 i2 l1 l2 s.heap.objs.size) (hxy : xs.size = ys.size) (hn : xs.size ≤ sizeLine) (h1 : 1 ≤ xs.size)
    (st : ZSt s.heap z TI TO i1 i2 l1 l2 s.heap.objs.size xs ys 0) (hz : IsZip s.heap z TI TO .none)
    (hQ : ∀ h' tk acc c as, (∀ b o, b ≠ z → b ≠ TO → b ≠ i1 → b ≠ i2 → s.heap.get? b = some o → h'.get? b = some o) → h'.get? s.heap.objs.size = some { cls := .type "list", dict := none, data := .seq acc c, slots := #[] } → as.length = xs.size → ZG xs ys s.heap.objs.size h' as →
      acc.toList = as.map Value.ref → Q (.ref s.heap.objs.size) { s with heap := h', toks := tk }) :
    wpAny (model prog w) A (call (.type "list") [.ref z]) Q E s := by
  refine callType_codes (Q₁ := fun obj s₁ => obj = .ref s.heap.objs.size ∧ s₁ = { s with heap := s.heap.push { cls := .type "list", data := .seq #[] } }) PySem.F.called_list (PySem.F.typeCall_list_1 _) PySem.F.entry_list_init
    (code_list_new _ ⟨rfl, rfl⟩) fun obj s₁ h₁ => ?_
  obtain ⟨rfl, rfl⟩ := h₁
  have hS : (s.heap.push { cls := .type "list", data := .seq #[] }).get? s.heap.objs.size = some { cls := .type "list", data := .seq #[] } := Heap.get?_push_size _ rfl
  have up : ∀ b o, s.heap.get? b = some o → (s.heap.push { cls := .type "list", data := .seq #[] }).get? b = some o := fun b o e => Heap.get?_push_of_some _ e
  have low : z < s.heap.objs.size ∧ TO < s.heap.objs.size ∧ i1 < s.heap.objs.size ∧ i2 < s.heap.objs.size := by
    obtain ⟨_, ⟨⟨o1, e1, _⟩, _⟩, ⟨⟨o2, e2, _⟩, _⟩, st⟩ := st
    refine ⟨Heap.lt_size hz, ?_, Heap.lt_size e1, Heap.lt_size e2⟩
    rcases st with ⟨_, _, a, b, h⟩ | ⟨T, f, oT, h, _⟩
    · exact Heap.lt_size h
    · have e : (some _ : Option Obj) = some _ := hz.symm.trans h
      simp [rawInt] at e
  refine ⟨⟨_, hS, rfl⟩, PySem.F.args_list_init_2 _ _, zt_init (A := A.in1) hh D hxy hn h1 low (st.keep D fun b o _ e => up b o e) (up _ _ hz) hS (fun h' tk acc c as hk hS' hl hG hacc => ?_)⟩
  exact ⟨rfl, hQ h' tk acc c as (fun b o n1 n2 n3 n4 e => hk b o (Nat.ne_of_lt (Heap.lt_size e)) n1 n2 n3 n4 (up b o e)) hS' hl hG hacc⟩
end
/-- new pairs in the abstract heap -/
def putP : Hp → List Addr → List (V × V) → Hp
  | H, a :: as, p :: ps => putP (upd H a (.tup [p.1, p.2])) as ps
  | H, _, _ => H
theorem putP_off {b : Addr} : ∀ (as : List Addr) (ps : List (V × V)) (H : Hp), b ∉ as → putP H as ps b = H b
  | [], _, _, _ => rfl
  | _ :: _, [], _, _ => rfl
  | a :: as, p :: ps, H, h => by
    show putP (upd H a (.tup [p.1, p.2])) as ps b = H b
    rw [putP_off as ps _ (fun z => h (List.mem_cons_of_mem _ z)), upd_ne (fun z => h (by rw [z]; exact List.mem_cons_self))]
theorem putP_at : ∀ (as : List Addr) (ps : List (V × V)) (H : Hp), as.length = ps.length → as.Nodup → ∀ (j : Nat) (a : Addr), as[j]? = some a → ∃ p, ps[j]? = some p ∧ putP H as ps a = some (.tup [p.1, p.2])
  | [], _, _, _, _, j, a, h => by simp at h
  | _ :: _, [], _, h, _, _, _, _ => by cases h
  | a :: as, p :: ps, H, h, hn, 0, b, e => by
    have hn' := List.nodup_cons.mp hn
    cases e
    exact ⟨p, rfl, by
      show putP (upd H a (.tup [p.1, p.2])) as ps a = _
      rw [putP_off as ps _ hn'.1, upd_same]⟩
  | a :: as, p :: ps, H, h, hn, j + 1, b, e => putP_at as ps (upd H a (.tup [p.1, p.2])) (Nat.succ.inj h) (List.nodup_cons.mp hn).2 j b e
def tListZip (K : PySem.W.Frag) (ta : TA) : TE := fun σ H Q => ta σ H fun vs H1 => ∃ (a b : Addr) (xs ys : List V), vs = [.ref a, .ref b] ∧ SqT K H1 a xs ∧ SqL K H1 b ys ∧ xs.length = ys.length ∧ 1 ≤ xs.length ∧
  ∀ (p : Addr) (ts : List Addr), H1 p = none → (∀ t ∈ ts, H1 t = none) → p ∉ ts → ts.Nodup → ts.length = xs.length → Q (.ref p) (putP (upd H1 p (.lst (ts.map V.ref))) ts (xs.zip ys))
theorem laidP {X : Cx} {pins : List (Addr × Obj)} {σ : L2.St} {H : Hp} {s : Shared} {h' : Heap} {tk : Nat} {S : Addr} {ps : List (V × V)} {acc : Array Value} {c : Nat} {as : List Addr} (I : Inv X pins σ H s) (hz : ps.length ≤ sizeLine) (hS0 : s.heap.objs.size ≤ S)
    (hk : ∀ b o, s.heap.get? b = some o → h'.get? b = some o) (hS : h'.get? S = some { cls := .type "list", dict := none, data := .seq acc c, slots := #[] }) (hl : as.length = ps.length) (rise : as.Pairwise (· < ·)) (above : ∀ a ∈ as, S < a)
    (hp : ∀ (j : Nat) (a : Addr) (p : V × V), as[j]? = some a → ps[j]? = some p → ∃ u v, RelV p.1 u ∧ RelV p.2 v ∧ h'.get? a = some { cls := .type "tuple", data := .seq #[u, v] }) (hacc : acc.toList = as.map Value.ref) :
    Inv X pins σ (putP (upd H S (.lst (as.map V.ref))) as ps) { s with heap := h', toks := tk } ∧ H S = none ∧ (∀ t ∈ as, H t = none) ∧ S ∉ as ∧ as.Nodup := by
  have hSn : S ∉ as := fun z => Nat.lt_irrefl _ (above _ z)
  have nd : as.Nodup := List.Pairwise.imp (fun {a b} (h : a < b) => Nat.ne_of_lt h) rise
  have new : ∀ t ∈ as, H t = none := fun t ht => I.hok.fresh (Nat.le_of_lt (Nat.lt_of_le_of_lt hS0 (above t ht)))
  have newS : H S = none := I.hok.fresh hS0
  have atP := putP_at as ps (upd H S (.lst (as.map V.ref))) hl nd
  have off : ∀ b, b ∉ as → b ≠ S → putP (upd H S (.lst (as.map V.ref))) as ps b = H b := fun b h1 h2 => by rw [putP_off as ps _ h1, upd_ne h2]
  have low : ∀ b o, s.heap.get? b = some o → b ∉ as ∧ b ≠ S := fun b o e => ⟨fun z => absurd (Heap.lt_size e) (Nat.not_lt.mpr (Nat.le_of_lt (Nat.lt_of_le_of_lt hS0 (above b z)))), Nat.ne_of_lt (Nat.lt_of_lt_of_le (Heap.lt_size e) hS0)⟩
  have kp : ∀ b u, H b = some u → (putP (upd H S (.lst (as.map V.ref))) as ps) b = some u := fun b u e => by
    rw [off b (fun z => by rw [new b z] at e; cases e) (fun z => by rw [z, newS] at e; cases e)]
    exact e
  have eS : putP (upd H S (.lst (as.map V.ref))) as ps S = some (.lst (as.map V.ref)) := by rw [putP_off as ps _ hSn, upd_same]
  refine ⟨?_, newS, new, hSn, nd⟩
  refine I.call' (ch := []) rfl ⟨fun b o q _ _ _ => hk b o q, fun b o q _ _ _ => ⟨o.slots, hk b o q⟩, fun b o q n _ => ?_, fun b o q _ => ⟨o, hk b o q⟩, fun b xs q => kp b _ q, fun b o u q => kp b _ q, fun b ps q => ⟨#[], by rw [kp b _ q]; simp⟩⟩ (fun b u q => ?_) I.bare fun b z => by simp at z
  · obtain ⟨z1, z2⟩ := low b o q
    rw [off b z1 z2]
    exact n
  · by_cases hb : b ∈ as
    · obtain ⟨j, hj⟩ := List.mem_iff_getElem?.mp hb
      obtain ⟨p, e1, e2⟩ := atP j b hj
      rw [e2] at q
      cases q
      obtain ⟨u, v, r1, r2, g⟩ := hp j b p hj e1
      exact ⟨by show 2 ≤ sizeLine; decide, [u, v], .cons r1 (.cons r2 .nil), ⟨_, g, rfl, _, rfl⟩⟩
    · by_cases hb2 : b = S
      · rw [hb2] at q ⊢
        rw [eS] at q
        cases q
        refine ⟨by rw [List.length_map]; omega, acc.toList, c, by rw [hacc]; exact LiI.vals_refs as, ?_⟩
        rw [Array.toArray_toList]
        exact hS
      · rw [off b hb hb2] at q
        exact (I.hok b u q).stay (fun d v _ y => hk d v y) (fun d y => kp d _ y) fun d xs y => kp d _ y
section
variable {X : Cx} {e1 e2 : Expr} {ta : TA} {p p2 pos pos2 : Pos}
theorem pe_listZip (hc : X.calm = true) (ha : PA X [e1, e2] ta) (hg : Gl X "list") (hm : X.mg "list" = none) (hg2 : Gl X "zip") (hm2 : X.mg "zip" = none)
    (hs : starEach [.Call (.Name "zip" p2) [e1, e2] [] pos2] X.env = (false, eval (.Call (.Name "zip" p2) [e1, e2] [] pos2) X.env) :: starEach [] X.env := by rfl)
    (he : starEach (e1 :: [e2]) X.env = (false, eval e1 X.env) :: starEach [e2] X.env := by rfl) (hpl : (backTo pos2 (starEach [e2] X.env)).any (·.1) = false := by rfl) :
    PE X (.Call (.Name "list" p) [.Call (.Name "zip" p2) [e1, e2] [] pos2] [] pos) (tListZip X.K ta) := by
  refine ⟨fun pins s σ H Q I hq => ?_⟩
  refine wpAny_Call_Name_kw (ld_blt I hg hm (show bootBuiltins "list" = some (.type "list") by decide +kernel) ?_)
  refine PyProof.Rows.callWith_type1 ?_ hs rfl
  rw [hs]
  show wpAny _ _ (spliced ((false, eval (.Call (.Name "zip" p2) [e1, e2] [] pos2) X.env) :: backTo pos (starEach [] X.env))) _ _ s
  refine Calls.spliced_cons ?_
  refine wpAny_Call_Name_kw (ld_blt I hg2 hm2 (show bootBuiltins "zip" = some (.type "zip") by decide +kernel) ?_)
  refine PyProof.Rows.callWith_type1 (thn (ha.run pos2 pins s σ H _ I hq) ?_) he hpl
  rintro us s1 ⟨vs, H1, I1, r, a, b, xs, ys, rfl, hx, hy, hlen, h1, q⟩
  obtain ⟨u, v, rfl, ru, rv⟩ := vals2 r
  obtain rfl : u = Value.ref a := ru
  obtain rfl : v = Value.ref b := rv
  obtain ⟨its, rx, px, zx⟩ := I1.tuple hx
  obtain ⟨jts, ry, py, zy⟩ := I1.list hy
  have py := py.isList
  have lx := rx.length
  have ly := ry.length
  refine zip_begins2 (begins_tuple a its.toArray) (begins_list b jts.toArray) px py fun h1' hz hTI hTO g1 g2 hsz hk => ?_
  refine Calls.spliced_nil ?_
  have la : a < s1.heap.objs.size := by
    obtain ⟨o, e, _⟩ := px
    exact Heap.lt_size e
  have lb : b < s1.heap.objs.size := by
    obtain ⟨o, e, _⟩ := py
    exact Heap.lt_size e
  have na : ∀ k : Nat, a ≠ s1.heap.objs.size + k := fun k => Nat.ne_of_lt (Nat.lt_of_lt_of_le la (Nat.le_add_right _ _))
  have nb : ∀ k : Nat, b ≠ s1.heap.objs.size + k := fun k => Nat.ne_of_lt (Nat.lt_of_lt_of_le lb (Nat.le_add_right _ _))
  generalize hN : s1.heap.objs.size = N at *
  have ne : ∀ i j : Nat, i ≠ j → N + i ≠ N + j := fun i j h z => h (Nat.add_left_cancel z)
  have n0 : ∀ j : Nat, 0 < j → N ≠ N + j := fun j h => Nat.ne_of_lt (Nat.lt_add_of_pos_right h)
  have D : ZAp (N + 4) (N + 2) (N + 3) N (N + 1) a b h1'.objs.size := by
    rw [hsz]
    refine ⟨⟨ne 2 4 (by decide), ne 3 4 (by decide), ne 2 3 (by decide), (n0 2 (by decide)).symm, by simp, ?_, ?_, ne 2 1 (by decide), by simp, ?_, ?_, ?_, ?_⟩, na 0, nb 1, ne 5 4 (by decide), ne 5 2 (by decide), ne 5 3 (by decide), (n0 5 (by decide)).symm, ne 5 1 (by decide), (na 5).symm, (nb 5).symm⟩
    · simp only [List.mem_cons, List.not_mem_nil, or_false, not_or]
      exact ⟨(n0 4 (by decide)).symm, (na 4).symm⟩
    · simp only [List.mem_cons, List.not_mem_nil, or_false, not_or]
      exact ⟨(n0 3 (by decide)).symm, (na 3).symm⟩
    · simp only [List.mem_cons, List.not_mem_nil, or_false, not_or]
      exact ⟨ne 4 1 (by decide), (nb 4).symm⟩
    · simp only [List.mem_cons, List.not_mem_nil, or_false, not_or]
      exact ⟨ne 3 1 (by decide), (nb 3).symm⟩
    · simp only [List.mem_cons, List.not_mem_nil, or_false, not_or]
      exact ⟨n0 1 (by decide), (nb 0).symm⟩
    · simp only [List.mem_cons, List.not_mem_nil, or_false, not_or]
      exact ⟨(n0 1 (by decide)).symm, (na 1).symm⟩
  have I2 : Inv X pins σ H1 { s1 with heap := h1' } := I1.kept (t' := s1.toks) hk
  have st : ZSt h1' (N + 4) (N + 2) (N + 3) N (N + 1) a b h1'.objs.size its.toArray jts.toArray 0 :=
    ⟨hTI, ⟨⟨_, g1, rfl, rfl⟩, Heap.IsTuple.at px (fun o e => hk _ _ e)⟩, ⟨⟨_, g2, rfl, rfl⟩, py.at fun o e => hk _ _ e⟩, .inl ⟨rfl, hz, _, _, hTO⟩⟩
  refine zt_call (s := { s1 with heap := h1' }) (I2.ok.hd hc) D (by simp only [List.size_toArray]; omega) (by simp only [List.size_toArray]; omega) (by simp only [List.size_toArray]; omega) st hz fun h' tk acc c as hk2 hS hl hG hacc => ?_
  have len : as.length = (xs.zip ys).length := by
    rw [hl, List.size_toArray, List.length_zip]
    omega
  have hp : ∀ (j : Nat) (t : Addr) (p : V × V), as[j]? = some t → (xs.zip ys)[j]? = some p → ∃ u v, RelV p.1 u ∧ RelV p.2 v ∧ h'.get? t = some { cls := .type "tuple", data := .seq #[u, v] } := fun j t p ht hp => by
    obtain ⟨x, y, e1, e2, e3⟩ := hG.pairs j t ht
    have h2 := List.getElem?_zip_eq_some.mp hp
    obtain ⟨u1, hu1, ru1⟩ := rx.get h2.1
    obtain ⟨u2, hu2, ru2⟩ := ry.get h2.2
    rw [List.getElem?_toArray, hu1] at e1
    rw [List.getElem?_toArray, hu2] at e2
    cases e1
    cases e2
    exact ⟨x, y, ru1, ru2, e3⟩
  have kk : ∀ b o, s1.heap.get? b = some o → h'.get? b = some o := fun b o e => by
    have lt := Heap.lt_size e
    rw [hN] at lt
    have n4 : b ≠ N + 4 := Nat.ne_of_lt (Nat.lt_of_lt_of_le lt (Nat.le_add_right N 4))
    have n3 : b ≠ N + 3 := Nat.ne_of_lt (Nat.lt_of_lt_of_le lt (Nat.le_add_right N 3))
    have n1 : b ≠ N + 1 := Nat.ne_of_lt (Nat.lt_of_lt_of_le lt (Nat.le_add_right N 1))
    exact hk2 b o n4 n3 (Nat.ne_of_lt lt) n1 (hk b o e)
  obtain ⟨J, k1, k2, k3, k4⟩ := laidP (s := s1) (h' := h') (tk := tk) I1 (ps := xs.zip ys) (S := h1'.objs.size) (by rw [List.length_zip]; omega) (by rw [hsz, hN]; exact Nat.le_add_right N 5) kk hS len hG.rise hG.above hp hacc
  exact ⟨.ref _, _, J, rfl, q _ as k1 k2 k3 k4 (by rw [hl, List.size_toArray, ← lx])⟩
end
end Mw
/-! ### more of what an expression yields -/
namespace Mw
open PySem PySem.Spec PyProof PyProof.Rows L2
def intsD (xs : List Int) : List PyData := xs.map .int
def strsD (xs : List Str) : List PyData := xs.map .str
theorem vals_int {K : PySem.W.Frag} {H : Hp} {vs : List V} : ∀ {xs : List Int}, DdAll K H vs (intsD xs) → vs = xs.map V.int := fun {xs} h => by
  have e : intsD xs = (xs.map (Sum.inl : Int → Key)).map keyD := by unfold intsD; rw [List.map_map] <;> rfl
  rw [e] at h
  rw [key_vals h, List.map_map] <;> rfl
theorem vals_str {K : PySem.W.Frag} {H : Hp} {vs : List V} : ∀ {xs : List Str}, DdAll K H vs (strsD xs) → vs = xs.map V.str := fun {xs} h => by
  have e : strsD xs = (xs.map (Sum.inr : Str → Key)).map keyD := by unfold strsD; rw [List.map_map] <;> rfl
  rw [e] at h
  rw [key_vals h, List.map_map] <;> rfl
theorem int_vals {K : PySem.W.Frag} {H : Hp} : ∀ (xs : List Int), DdAll K H (xs.map V.int) (intsD xs)
  | [] => .nil
  | x :: xs => .cons (.int x) (int_vals xs)
theorem str_vals {K : PySem.W.Frag} {H : Hp} : ∀ (xs : List Str), DdAll K H (xs.map V.str) (strsD xs)
  | [] => .nil
  | x :: xs => .cons (.str x) (str_vals xs)
section
variable {K : PySem.W.Frag} {U : Wo} {W : Wd} {M : Hp} {σ : L2.St} {n k k0 m : Nat} {te ta tb : TE} {t : TA} {tt tu : TT} {D : Ends} {H : Hp}
/-! sorted -/
theorem e1_srtI {d : PyData} {xs : List Int} (h : E1 K U M te σ d) (hd : d = .list (intsD xs) ∨ d = .tuple (intsD xs)) (hl : xs.length ≤ 100000) : E1 K U M (tCB (rSrtI K) (tCons te tNil)) σ (.list (intsD (srtI xs))) := fun n H a Q q => h n H a _ fun v H1 ok1 s1 d1 => by
  have out : ∀ (a : Addr), v = .ref a → (SqL K H1 a (xs.map V.int) ∨ SqT K H1 a (xs.map V.int)) → (rSrtI K) [v] H1 Q := fun a e hs => ⟨a, xs, by rw [e], hs, thousand hl, fun ys p hp hs np => by
    obtain ⟨ok2, s2, f2, _⟩ := U.new (o := .lst (ys.map V.int)) ok1 np rfl
    rw [srtI_eq hp hs] at ok2 s2 f2 ⊢
    exact q _ _ ok2 (s1.trans s2) (.lst f2 (int_vals _))⟩
  rcases hd with rfl | rfl
  · cases d1 with
    | lst hq ha => exact out _ rfl (.inl (.inl (.inl (U.le _ _ _ (vals_int ha ▸ hq)))))
  · cases d1 with
    | tup hq ha => exact out _ rfl (.inr (seqT (U.le _) (vals_int ha ▸ hq)))
/-- names in their order: r ranks those of D -/
structure Asc (r : Str → Int) (D : List Str) (names : List Str) : Prop where
  lt : ∀ x ∈ D, ∀ y ∈ D, ltCps x.cps.toList y.cps.toList = decide (r x < r y)
  inj : ∀ x ∈ D, ∀ y ∈ D, r x = r y → x = y
  mem : ∀ x ∈ names, x ∈ D
  asc : names.Pairwise (fun x y => r x ≤ r y)
theorem Asc.eq {r : Str → Int} {D names ys : List Str} (A : Asc r D names) (p : ys.Perm names) (h : sortedS ys = true) : ys = names := by
  have my : ∀ x ∈ ys, x ∈ D := fun x hx => A.mem x (p.mem_iff.mp hx)
  exact srt_uniq r p (sortedS_rank A.lt my h) A.asc fun x hx y hy e => A.inj x (my x hx) y (my y hy) e
theorem e1_srtS {r : Str → Int} {D names : List Str} {d : PyData} {xs : List Str} (A : Asc r D names) (p : xs.Perm names) (h : E1 K U M te σ d) (hd : d = .list (strsD xs) ∨ d = .tuple (strsD xs)) (hl : xs.length < 64) :
    E1 K U M (tCB (rSrtS K) (tCons te tNil)) σ (.list (strsD names)) := fun n H a Q q => h n H a _ fun v H1 ok1 s1 d1 => by
  have out : ∀ (a : Addr), v = .ref a → (SqL K H1 a (xs.map V.str) ∨ SqT K H1 a (xs.map V.str)) → (rSrtS K) [v] H1 Q := fun a e hs => ⟨a, xs, by rw [e], hs, hl, fun ys q2 hp hs np => by
    obtain ⟨ok2, s2, f2, _⟩ := U.new (o := .lst (ys.map V.str)) ok1 np rfl
    rw [A.eq (hp.trans p) hs] at ok2 s2 f2 ⊢
    exact q _ _ ok2 (s1.trans s2) (.lst f2 (str_vals _))⟩
  rcases hd with rfl | rfl
  · cases d1 with
    | lst hq ha => exact out _ rfl (.inl (.inl (.inl (U.le _ _ _ (vals_str ha ▸ hq)))))
  · cases d1 with
    | tup hq ha => exact out _ rfl (.inr (seqT (U.le _) (vals_str ha ▸ hq)))
/-- packets -/
def pkD (p : List Int) : PyData := .tuple (intsD p)
def pksD (ps : List (List Int)) : PyData := .list (ps.map pkD)
theorem pk_vals {H : Hp} : ∀ {vs : List V} {ps : List (List Int)}, DdAll K H vs (ps.map pkD) → (∀ v ∈ vs, ∃ p ∈ ps, TupI K H v p) ∧ vs.length = ps.length
  | [], [], _ => ⟨fun _ h => (nomatch h), rfl⟩
  | v :: vs, p :: ps, h => by
    cases h with
    | cons a b =>
      obtain ⟨i1, i2⟩ := pk_vals b
      refine ⟨fun u hu => ?_, by rw [List.length_cons, List.length_cons, i2]⟩
      rcases List.mem_cons.mp hu with rfl | hu
      · cases a with
        | tup hq ha => exact ⟨p, List.mem_cons_self .., _, rfl, vals_int ha ▸ hq⟩
      · obtain ⟨q, hq, t⟩ := i1 u hu
        exact ⟨q, List.mem_cons_of_mem _ hq, t⟩
  | [], _ :: _, h => by cases h
  | _ :: _, [], h => by cases h
theorem TupI.same {H H' : Hp} {v : V} {p : List Int} (h : TupI K H v p) (e : Same H H') : TupI K H' v p := by
  obtain ⟨t, e1, h⟩ := h
  exact ⟨t, e1, seqT e h⟩
theorem perm_mapG {α β : Type} (f : α → β) {es ms : List β} (h : es.Perm ms) : ∀ {l : List α}, ms = l.map f → ∃ l' : List α, l'.Perm l ∧ es = l'.map f := by
  induction h with
  | nil => exact fun {l} e => ⟨l, List.Perm.refl _, e⟩
  | cons x p ih =>
    intro l e
    cases l with
    | nil => cases e
    | cons y l =>
      rw [List.map_cons] at e
      obtain ⟨e1, e2⟩ := List.cons.inj e
      obtain ⟨l', p', e'⟩ := ih e2
      exact ⟨y :: l', p'.cons _, by rw [List.map_cons, e1, e']⟩
  | swap x y l0 =>
    intro l e
    cases l with
    | nil => cases e
    | cons a l =>
      rw [List.map_cons] at e
      obtain ⟨e1, e2⟩ := List.cons.inj e
      cases l with
      | nil => cases e2
      | cons b l =>
        rw [List.map_cons] at e2
        obtain ⟨e3, e4⟩ := List.cons.inj e2
        exact ⟨b :: a :: l, List.Perm.swap _ _ _, by rw [List.map_cons, List.map_cons, e1, e3, e4]⟩
  | trans p1 p2 ih1 ih2 =>
    intro l e
    obtain ⟨l1, q1, e1⟩ := ih2 e
    obtain ⟨l2, q2, e2⟩ := ih1 e1
    exact ⟨l2, q2.trans q1, e2⟩
theorem pk_asc {B : Int} {H : Hp} : ∀ {vs : List V} {ps : List (List Int)}, vs.Pairwise (fun x y => ∀ n m, TupI K H x n → TupI K H y m → TS.code B n ≤ TS.code B m) → DdAll K H vs (ps.map pkD) → ps.Pairwise (fun x y => TS.code B x ≤ TS.code B y)
  | _, [], _, _ => .nil
  | [], _ :: _, _, h => by cases h
  | v :: vs, p :: ps, hv, h => by
    obtain ⟨v1, v2⟩ := List.pairwise_cons.mp hv
    cases h with
    | cons a b =>
      refine List.pairwise_cons.mpr ⟨fun q hq => ?_, pk_asc v2 b⟩
      obtain ⟨j, hj⟩ := List.mem_iff_getElem?.mp hq
      have hj' : (ps.map pkD)[j]? = some (pkD q) := by rw [List.getElem?_map, hj] <;> rfl
      have lt : j < vs.length := by
        rw [b.len, List.length_map]
        exact (List.getElem?_eq_some_iff.mp hj).1
      obtain ⟨e, he, de⟩ := b.at (List.getElem?_eq_getElem lt)
      rw [hj'] at he
      cases he
      cases a with
      | tup q1 a1 =>
        refine v1 _ (List.getElem_mem lt) p q ⟨_, rfl, vals_int a1 ▸ q1⟩ ?_
        generalize vs[j] = u at de
        cases de with
        | tup q2 a2 => exact ⟨_, rfl, vals_int a2 ▸ q2⟩
/-- sorted of packets: ps is their order -/
theorem e1_srtT {B : Int} {d : Nat} {qs ps : List (List Int)} (hd : 1 ≤ d) (ok : PkOk B d ps) (p : qs.Perm ps) (h : E1 K U M te σ (pksD qs)) : E1 K U M (tCB (rSrtT K d B) (tCons te tNil)) σ (pksD ps) := fun n H a Q q => h n H a _ fun v H1 ok1 s1 d1 => by
  unfold pksD at d1
  cases d1 with
  | lst hq ha =>
    obtain ⟨i1, i2⟩ := pk_vals ha
    refine ⟨_, _, rfl, .inl (.inl (U.le _ _ _ hq)), fun x hx => ?_, fun ys a' hp hs np => ?_⟩
    · obtain ⟨e, he, t⟩ := i1 x hx
      have := ok.1 e (p.mem_iff.mp he)
      exact ⟨e, TupI.same t (U.le _), this.1, this.2⟩
    · obtain ⟨ok2, s2, f2, _⟩ := U.new (o := .lst ys) ok1 np rfl
      obtain ⟨es, e1, e2⟩ := DdAll.perm hp ha
      have e3 : es.Perm (ps.map pkD) := e1.trans (p.map _)
      obtain ⟨rs, hrs, rfl⟩ := perm_mapG pkD e3 rfl
      have asc : rs.Pairwise (fun x y => TS.code B x ≤ TS.code B y) := pk_asc hs (e2.same (U.le _))
      have e4 : rs = ps := srt_uniq (TS.code B) hrs asc (ok.2.imp fun {x y} h => Int.le_of_lt h) fun x hx y hy e => by
        have a1 := ok.1 x (hrs.mem_iff.mp hx)
        have a2 := ok.1 y (hrs.mem_iff.mp hy)
        exact code_inj (a1.1.trans a2.1.symm) a1.2 a2.2 e
      subst e4
      exact q _ _ ok2 (s1.trans s2) (.lst f2 (e2.same s2))
end
end Mw
namespace Mw
open PySem PySem.Spec PyProof PyProof.Rows L2
/-! ### new pairs in a world -/
theorem wo_putP {U : Wo} {n : Nat} : ∀ (ts : List Addr) (ps : List (V × V)) (H : Hp), U.ok n H → (∀ t ∈ ts, H t = none) → ts.Nodup → ts.length = ps.length →
    U.ok n (putP H ts ps) ∧ Same (U.view H) (U.view (putP H ts ps)) ∧ ∀ (j : Nat) (t : Addr), ts[j]? = some t → ∃ p, ps[j]? = some p ∧ U.view (putP H ts ps) t = some (.tup [p.1, p.2])
  | [], [], H, ok, _, _, _ => ⟨ok, Same.refl _, fun j t h => by simp at h⟩
  | [], _ :: _, _, _, _, _, h => by cases h
  | _ :: _, [], _, _, _, _, h => by cases h
  | t :: ts, p :: ps, H, ok, hn, nd, hl => by
    obtain ⟨n1, n2⟩ := List.nodup_cons.mp nd
    obtain ⟨ok1, s1, f1, _⟩ := U.new (o := .tup [p.1, p.2]) ok (hn t (List.mem_cons_self ..)) rfl
    obtain ⟨ok2, s2, at2⟩ := wo_putP ts ps (upd H t (.tup [p.1, p.2])) ok1 (fun u hu => by
      have ne : u ≠ t := fun z => n1 (z ▸ hu)
      rw [upd_ne ne]
      exact hn u (List.mem_cons_of_mem _ hu)) n2 (Nat.succ.inj hl)
    refine ⟨ok2, s1.trans s2, fun j u hu => ?_⟩
    cases j with
    | zero =>
      cases hu
      exact ⟨p, rfl, s2 _ _ f1⟩
    | succ j => exact at2 j u hu
theorem dd_pairs {K : PySem.W.Frag} {H H' : Hp} (e : Same H H') : ∀ (ts : List Addr) (ps : List (V × V)) (ds es : List PyData), DdAll K H (ps.map (·.1)) ds → DdAll K H (ps.map (·.2)) es → ts.length = ps.length →
    (∀ (j : Nat) (t : Addr), ts[j]? = some t → ∃ p, ps[j]? = some p ∧ H' t = some (.tup [p.1, p.2])) → DdAll K H' (ts.map V.ref) (List.zipWith (fun d e => .tuple [d, e]) ds es)
  | [], [], _, _, hd, he, _, _ => by
    cases hd
    cases he
    exact .nil
  | [], _ :: _, _, _, _, _, h, _ => by cases h
  | _ :: _, [], _, _, _, _, h, _ => by cases h
  | t :: ts, p :: ps, _, _, hd, he, hl, h => by
    cases hd with
    | cons d1 d2 =>
      cases he with
      | cons e1 e2 =>
        refine .cons ?_ (dd_pairs e ts ps _ _ d2 e2 (Nat.succ.inj hl) fun j u hu => h (j + 1) u hu)
        obtain ⟨q, hq, f⟩ := h 0 t rfl
        cases hq
        exact .tup (.inl (.inl f)) (.cons (d1.same e) (.cons (e1.same e) .nil))
section
variable {K : PySem.W.Frag} {U : Wo} {W : Wd} {M : Hp} {σ : L2.St} {n k k0 m : Nat} {te ta tb : TE} {t : TA} {tt tu : TT} {D : Ends} {H : Hp}
/-- list(zip(x, y)) -/
theorem e1_listZip {ds es : List PyData} (h : A1 K U M t σ [.tuple ds, .list es]) (hl : ds.length = es.length) (h1 : 1 ≤ ds.length) : E1 K U M (tListZip K t) σ (.list (List.zipWith (fun d e => .tuple [d, e]) ds es)) := fun n H a Q q => h n H a _ fun vs H1 ok1 s1 d1 => by
  cases d1 with
  | cons x1 d2 =>
    cases d2 with
    | cons x2 d3 =>
      cases d3
      cases x1 with
      | tup q1 a1 =>
        cases x2 with
        | lst q2 a2 =>
          have l1 := a1.len
          have l2 := a2.len
          refine ⟨_, _, _, _, rfl, seqT (U.le _) q1, .inl (.inl (U.le _ _ _ q2)), by omega, by omega, fun p ts np nt npt nd hts => ?_⟩
          rename_i b2 xs b3 ys
          obtain ⟨ok2, s2, f2, _⟩ := U.new (o := .lst (ts.map V.ref)) ok1 np rfl
          obtain ⟨ok3, s3, at3⟩ := wo_putP ts (xs.zip ys) (upd H1 p (.lst (ts.map V.ref))) ok2 (fun u hu => by
            have ne : u ≠ p := fun z => npt (z ▸ hu)
            rw [upd_ne ne]
            exact nt u hu) nd (by rw [List.length_zip]; omega)
          refine q _ _ ok3 ((s1.trans s2).trans s3) (.lst (s3 _ _ f2) (dd_pairs (s2.trans s3) ts (xs.zip ys) ds es ?_ ?_ (by rw [List.length_zip]; omega) at3))
          · rw [show (xs.zip ys).map (·.1) = xs from List.map_fst_zip (by omega)]
            exact a1
          · rw [show (xs.zip ys).map (·.2) = ys from List.map_snd_zip (by omega)]
            exact a2
/-! list(d.items()) -/
end
def tListItemsP (te : TE) : TE := fun σ H Q => te σ H fun x H1 => ∃ (d : Addr) (kvs : List (Key × V)), x = .ref d ∧ H1 d = some (.dK kvs) ∧
  ∀ (p : Addr) (ts : List Addr), H1 p = none → (∀ t ∈ ts, H1 t = none) → p ∉ ts → ts.Nodup → ts.length = kvs.length → Q (.ref p) (putP (upd H1 p (.lst (ts.map V.ref))) ts (kvs.map fun q => (kV q.1, q.2)))
theorem pe_listItemsP {X : Cx} {e : Expr} {te : TE} {p apos cpos pos : Pos} (hc : X.calm = true) (he : PE X e te) (hg : Gl X "list") (hm : X.mg "list" = none) (hbase : attributeBase e "items" X.env (eval e X.env) = eval e X.env := by rfl) (hline : (apos.endLine == cpos.line) = true := by rfl)
    (hs : starEach [.Call (.Attribute e "items" apos) [] [] cpos] X.env = (false, eval (.Call (.Attribute e "items" apos) [] [] cpos) X.env) :: starEach [] X.env := by rfl) :
    PE X (.Call (.Name "list" p) [.Call (.Attribute e "items" apos) [] [] cpos] [] pos) (tListItemsP te) := by
  refine ⟨fun pins s σ H Q I hq => ?_⟩
  refine wpAny_Call_Name_kw (ld_blt I hg hm (show bootBuiltins "list" = some (.type "list") by decide +kernel) ?_)
  refine PyProof.Rows.callWith_type1 ?_ hs rfl
  rw [hs]
  show wpAny _ _ (spliced ((false, eval (.Call (.Attribute e "items" apos) [] [] cpos) X.env) :: backTo pos (starEach [] X.env))) _ _ s
  refine Calls.spliced_cons ?_
  refine wpAny_Call_method (T := "dict") (id := "dict.items") hbase rfl hline F.plainAttrs_dict F.slot_dict_items F.type_dict_items (thn (he.run pins s σ H _ I hq) fun u s1 ⟨x, H1, I1, rx, d, kvs, ex, hd, q⟩ => ?_)
  subst ex
  obtain rfl : u = Value.ref d := rx
  obtain ⟨hz, hs0, vs, kv, hdo⟩ := I1.hok d _ hd
  obtain ⟨ep, hat⟩ := hdo.dictAt
  have lk : kvs.length = vs.length := Paired.length kv
  have I2 : Inv X pins σ H1 { s1 with heap := s1.heap.push { cls := .type "dict_items", data := .fields #[.ref d] } } := I1.kept (t' := s1.toks) fun b ob q => Heap.get?_push_of_some _ q
  refine ⟨hdo.typeIs, hdo.mapOf.noDict, ?_⟩
  show wpAny _ _ (callWith cpos (.builtin "dict.items") [.ref d] [] []) _ X.xe s1
  refine method_meetsIn F.slot_dict_items F.entry_dict_items rfl (PySem.evalArgs_none ⟨rfl, hdo.typeIs, F.args_dict_items_1 _, _, meets_dict_items (mixKind X.prog X.w) d hs0, ⟨vs, hdo⟩, ?_⟩)
  refine Calls.spliced_nil ?_
  refine PySem.W.kdx_call (knd := mixKind X.prog X.w) (kvs := vs) (ep := ep) (I1.ok.hd hc) ⟨_, Heap.get?_push_size _ rfl, rfl, rfl⟩ (hat.push _) (by omega) fun h' tk acc c as hk hS hl hG hacc => ?_
  have hp : ∀ (j : Nat) (t : Addr) (p : V × V), as[j]? = some t → (kvs.map fun q => (kV q.1, q.2))[j]? = some p → ∃ u v, RelV p.1 u ∧ RelV p.2 v ∧ h'.get? t = some { cls := .type "tuple", data := .seq #[u, v] } := fun j t p ht hp => by
    obtain ⟨key, kk, x, f1, f2, f3⟩ := hG.pairs j t ht
    rw [List.getElem?_map] at hp
    obtain ⟨q0, hq0, rfl⟩ := Option.map_eq_some_iff.mp hp
    obtain ⟨y, g1, g2⟩ := LiI.paired_get kv hq0
    rw [f1] at g1
    cases g1
    exact ⟨key, x, by rw [g2.1]; exact relV_key (show keyIs kk key = true from f2), g2.2, f3⟩
  obtain ⟨J, k1, k2, k3, k4⟩ := laidP (s := { s1 with heap := s1.heap.push { cls := .type "dict_items", data := .fields #[.ref d] } }) (h' := h') (tk := tk) I2 (ps := kvs.map fun q => (kV q.1, q.2)) (by rw [List.length_map]; exact hz) (Nat.le_refl _) hk hS (by rw [List.length_map]; omega) hG.rise hG.above hp hacc
  exact ⟨.ref _, _, J, rfl, q _ as k1 k2 k3 k4 (by omega)⟩
section
variable {K : PySem.W.Frag} {U : Wo} {W : Wd} {M : Hp} {σ : L2.St} {n k k0 m : Nat} {te ta tb : TE} {t : TA} {tt tu : TT} {D : Ends} {H : Hp}
theorem e1_listItems {ps : List (PyData × PyData)} (h : E1 K U M te σ (.dict ps)) : E1 K U M (tListItemsP te) σ (.list (List.zipWith (fun d e => .tuple [d, e]) (ps.map (·.1)) (ps.map (·.2)))) := fun n H a Q q => h n H a _ fun v H1 ok1 s1 d1 => by
  cases d1 with
  | dic hq hk hv =>
    rename_i b kvs
    have lk : kvs.length = ps.length := by
      have := hk.len
      rwa [List.length_map, List.length_map] at this
    refine ⟨_, _, rfl, U.le _ _ _ hq, fun p ts np nt npt nd hts => ?_⟩
    obtain ⟨ok2, s2, f2, _⟩ := U.new (o := .lst (ts.map V.ref)) ok1 np rfl
    obtain ⟨ok3, s3, at3⟩ := wo_putP ts (kvs.map fun q => (kV q.1, q.2)) (upd H1 p (.lst (ts.map V.ref))) ok2 (fun u hu => by
      have ne : u ≠ p := fun z => npt (z ▸ hu)
      rw [upd_ne ne]
      exact nt u hu) nd (by rw [List.length_map]; omega)
    refine q _ _ ok3 ((s1.trans s2).trans s3) (.lst (s3 _ _ f2) (dd_pairs (s2.trans s3) ts (kvs.map fun q => (kV q.1, q.2)) _ _ ?_ ?_ (by rw [List.length_map]; omega) at3))
    · rw [List.map_map]
      exact hk
    · rw [List.map_map]
      exact hv
/-! a starred item -/
theorem a1_star {d : PyData} {ds es : List PyData} (h : E1 K U M te σ d) (hd : d = .list ds ∨ d = .tuple ds) (hs : A1 K U M t σ es) : A1 K U M (StX.tStar K te t) σ (ds ++ es) := fun n H a Q q =>
  h n H a _ fun v H1 ok1 s1 d1 => by
    rcases hd with rfl | rfl
    · cases d1 with
      | lst hq ha => exact ⟨_, _, rfl, .inr (.inl (.inl (U.le _ _ _ hq))), hs n H1 (a.step ok1 s1) _ fun vs H2 ok2 s2 d2 => q _ H2 ok2 (s1.trans s2) ((ha.same s2).app d2)⟩
    · cases d1 with
      | tup hq ha => exact ⟨_, _, rfl, .inl (seqT (U.le _) hq), hs n H1 (a.step ok1 s1) _ fun vs H2 ok2 s2 d2 => q _ H2 ok2 (s1.trans s2) ((ha.same s2).app d2)⟩
/-- xs[:e] -/
theorem e1_slTo {ds : List PyData} {j : Nat} (h : E1 K U M te σ (.list ds)) (hj : E1 K U M ta σ (.int j)) : E1 K U M (tSl (rSlL K) te tNoPart (tPart ta)) σ (.list (ds.take j)) := fun n H a Q q => h n H a _ fun v H1 ok1 s1 d1 =>
  hj n H1 (a.step ok1 s1) _ fun u H2 ok2 s2 d2 => by
    cases d2
    cases d1 with
    | lst hq ha =>
      refine ⟨_, rfl, _, _, rfl, .inl (.inl (U.le _ _ _ (s2 _ _ hq))), fun p np => ?_⟩
      obtain ⟨ok3, s3, f3, _⟩ := U.new ok2 np rfl
      refine q _ _ ok3 ((s1.trans s2).trans s3) (.lst f3 ?_)
      have e : cutD ds none (some (j : Int)) = ds.take j := by
        unfold cutD
        rw [HT.sIx_none, HT.sIx_nat, Nat.sub_zero, List.drop_zero]
        by_cases h : j ≤ ds.length
        · rw [Nat.min_eq_left h]
        · rw [Nat.min_eq_right (by omega), List.take_of_length_le (Nat.le_refl _), List.take_of_length_le (by omega)]
      rw [← e]
      exact ((ha.cut none (some (j : Int))).same s2).same s3
/-! a for, its promise told of the heap too -/
theorem s1_forH {wi : TI} {j : Nat} {ds : List PyData} {tb : TS} (a : At U n M H) (h : I1 K U M wi σ ds) (Pv : Nat → L2.St → Hp → Prop) (h0 : ∀ H', U.ok n H' → Same (U.view H) (U.view H') → Pv 0 σ H')
    (hs : ∀ i σ' H' v d (N : L2.St → Hp → Prop), ds[i]? = some d → Pv i σ' H' → At U n M H' → Same (U.view H) (U.view H') → Dd K (U.view H') v d → (∀ σ2 H2, Pv (i + 1) σ2 H2 → At U n M H2 → Same (U.view H') (U.view H2) → N σ2 H2) →
      tb { D with nx := N, ct := N, bk := D.nx } (σ'.set j (some v)) H')
    (hd : ∀ σ' H', Pv ds.length σ' H' → At U n M H' → Same (U.view H) (U.view H') → D.nx σ' H') : tFor wi (gName j) tb D σ H :=
  h n H a _ fun J H1 ok1 s1 w => by
    refine for_it w (fun i σ' H' => Pv i σ' H' ∧ At U n M H' ∧ Same (U.view H1) (U.view H')) ⟨h0 _ ok1 s1, a.step ok1 s1, Same.refl _⟩ (fun i σ' H' _ z => z.2.2) ?_ ?_
    · rintro i x σ' H2 H3 hi ⟨pv, a2, s2⟩ ⟨rfl, d, hd, dx⟩
      exact hs i σ' H3 x d _ hd pv a2 (s1.trans s2) (dx.same s2) fun σ2 H4 p2 a4 s4 => ⟨p2, a4, s2.trans s4⟩
    · rintro σ' H2 ⟨pv, a2, s2⟩
      exact hd _ _ pv a2 (s1.trans s2)
end
end Mw
namespace Mw
open PySem PySem.Spec PyProof PyProof.Rows L2
section
variable {K : PySem.W.Frag} {U : Wo} {W : Wd} {M : Hp} {σ : L2.St} {n k k0 m : Nat} {te ta tb : TE} {t : TA} {tt tu : TT} {D : Ends} {H : Hp}
/-- a new object -/
def New (U : Wo) (H : Hp) (v : V) : Prop := ∀ a, v = .ref a → U.view H a = none
theorem New.back {U : Wo} {H H' : Hp} {v : V} (h : New U H' v) (s : Same (U.view H) (U.view H')) : New U H v := fun a e => by
  cases z : U.view H a with
  | none => rfl
  | some o =>
    have := s _ _ z
    rw [h a e] at this
    cases this
theorem new_none {U : Wo} {H : Hp} {a : Addr} (h : H a = none) : New U H (.ref a) := fun b e => by
  cases e
  cases z : U.view H a with
  | none => rfl
  | some o =>
    rw [U.le _ _ _ z] at h
    cases h
/-- te yields the data d, a new object -/
def E1N (K : PySem.W.Frag) (U : Wo) (M : Hp) (te : TE) (σ : L2.St) (d : PyData) : Prop := ∀ n H, At U n M H → ∀ Q : VK, (∀ v H', U.ok n H' → Same (U.view H) (U.view H') → Dd K (U.view H') v d → New U H v → Q v H') → te σ H Q
theorem E1N.e1 {d : PyData} (h : E1N K U M te σ d) : E1 K U M te σ d := fun n H a Q q => h n H a Q fun v H' ok s dd _ => q v H' ok s dd
theorem E1N.is {d e : PyData} (h : E1N K U M te σ d) (z : d = e) : E1N K U M te σ e := z ▸ h
theorem e1_lstN {ds : List PyData} (h : A1 K U M t σ ds) (z : ds.length ≤ 100000) : E1N K U M (tLst t) σ (.list ds) := fun n H a Q q =>
  h n H a _ fun vs H1 ok1 s1 d1 => ⟨thousand (d1.len ▸ z), fun p np => by
    obtain ⟨ok2, s2, f2, _⟩ := U.new (o := .lst vs) ok1 np rfl
    exact q _ _ ok2 (s1.trans s2) (.lst f2 (d1.same s2)) ((new_none np).back s1)⟩
theorem s1_asgN {i : Nat} {d : PyData} (a : At U n M H) (h : E1N K U M te σ d) (q : ∀ v H', At U n (U.view H') H' → Same (U.view H) (U.view H') → Dd K (U.view H') v d → New U H v → D.nx (σ.set i (some v)) H') : tAsg te (gName i) D σ H :=
  h n H a _ fun v H1 ok1 s1 d1 nw => q v H1 (At.here ok1) s1 d1 nw
/-- [e for x in xs for y in ys] -/
theorem e1_lc2N {wi wi1 : TI} {j j1 : Nat} {vs vs1 : List Nat} {ds es : List PyData} {f : PyData → PyData → PyData} (h : I1 K U M wi σ ds) (z : ds.length * es.length ≤ 100000)
    (hw : ∀ x, wipe ((wipe σ vs).set j (some x)) vs = wipe σ vs)
    (hw1 : ∀ x y, wipe ((wipe ((wipe σ vs).set j (some x)) vs1).set j1 (some y)) vs1 = wipe ((wipe σ vs).set j (some x)) vs1)
    (hi : ∀ (U' : Wo) M' v d, Same M M' → d ∈ ds → Dd K M' v d → I1 K U' M' wi1 ((wipe σ vs).set j (some v)) es)
    (he : ∀ (U' : Wo) M' v u d e, Same M M' → d ∈ ds → e ∈ es → Dd K M' v d → Dd K M' u e → E1 K U' M' te ((wipe ((wipe σ vs).set j (some v)) vs1).set j1 (some u)) (f d e)) :
    E1N K U M (tLc2 wi (gName j) tYes wi1 (gName j1) tYes te vs vs1) σ (.list (ds.flatMap fun d => es.map (f d))) := fun n H a Q q => h n H a _ fun J H1 ok1 s1 w => by
  intro D nD
  have a1 : At U n M H1 := a.step ok1 s1
  have nD0 : U.view H1 D = none := by
    cases e : U.view H1 D with
    | none => rfl
    | some o =>
      rw [U.le _ _ _ e] at nD
      cases nD
  have off : Same (U.view H1) (hideV D (U.view H1)) := fun b o e => hide_at e (fun q => by
    rw [q, nD0] at e
    cases e)
  have lenF : ∀ l : List PyData, (l.flatMap fun d => es.map (f d)).length = l.length * es.length := fun l => by
    induction l with
    | nil => simp
    | cons d l ih => rw [List.flatMap_cons, List.length_append, ih, List.length_map, List.length_cons, Nat.add_mul, Nat.one_mul, Nat.add_comm]
  let Iv : Nat → Hp → Prop := fun i H' => U.ok n H' ∧ Same (U.view H1) (hideV D (U.view H')) ∧ ∃ acc, U.view H' D = some (.lst acc) ∧ DdAll K (hideV D (U.view H')) acc ((ds.take i).flatMap fun d => es.map (f d))
  obtain ⟨okD, sD, fD, _⟩ := U.new (o := .lst []) ok1 nD rfl
  refine ⟨fun i m H' => m = ds.length - i ∧ i ≤ ds.length ∧ Iv i H', ⟨ds.length, by simp, Nat.zero_le _, okD, off.trans (hide_same sD), [], fD, .nil⟩, ?_⟩
  rintro i m H2 ⟨rfl, hi0, ok2, s2, acc, f2, da⟩
  have g2 : Same (U.view H1) (U.view H2) := s2.trans (hide_le _ _)
  by_cases hlt : i < ds.length
  · refine .inr ⟨w.goes i H2 hlt g2, Iv (i + 1), fun H' p' => ⟨ds.length - (i + 1), by omega, rfl, hlt, p'⟩, fun x H3 y => ?_⟩
    obtain ⟨rfl, d, hd, dx⟩ := w.yields i H2 x H3 hlt g2 y
    have hm : d ∈ ds := List.mem_of_getElem? hd
    refine ⟨hw x, ?_⟩
    refine rd_yes (iteT ?_)
    have aP : At (U.hide D (.lst acc)) n (U.view H1) H3 := ⟨⟨ok2, f2⟩, s2⟩
    refine hi (U.hide D (.lst acc)) (U.view H1) x d a1.up hm dx n H3 aP _ fun J1 H4 ok4 s4 w1 => ?_
    have st : ((ds.take (i + 1)).flatMap fun d => es.map (f d)) = ((ds.take i).flatMap fun d => es.map (f d)) ++ es.map (f d) := by
      rw [List.take_add_one, hd, List.flatMap_append]
      simp
    have s4' : Same (hideV D (U.view H3)) (hideV D (U.view H4)) := s4
    let Jv : Nat → Hp → Prop := fun k H' => U.ok n H' ∧ Same (hideV D (U.view H4)) (hideV D (U.view H')) ∧ ∃ acc, U.view H' D = some (.lst acc) ∧ DdAll K (hideV D (U.view H')) acc (((ds.take i).flatMap fun d => es.map (f d)) ++ (es.take k).map (f d))
    refine ⟨fun k m H' => m = es.length - k ∧ k ≤ es.length ∧ Jv k H', ⟨es.length, by simp, Nat.zero_le _, ok4.1, Same.refl _, acc, ok4.2, ?_⟩, ?_⟩
    · rw [List.take_zero, List.map_nil, List.append_nil]
      exact da.same s4'
    rintro k m H5 ⟨rfl, hk, ok5, s5, acc5, f5, da5⟩
    by_cases hlt1 : k < es.length
    · refine .inr ⟨w1.goes k H5 hlt1 s5, Jv (k + 1), fun H' p' => ⟨es.length - (k + 1), by omega, rfl, hlt1, p'⟩, fun y H6 yy => ?_⟩
      obtain ⟨rfl, e, hei, ey⟩ := w1.yields k H5 y H6 hlt1 s5 yy
      have hme : e ∈ es := List.mem_of_getElem? hei
      refine ⟨hw1 x y, ?_⟩
      refine rd_yes (iteT ?_)
      have up5 : Same (U.view H1) (hideV D (U.view H6)) := (s2.trans s4').trans s5
      refine he (U.hide D (.lst acc5)) (hideV D (U.view H6)) x y d e (a1.up.trans up5) hm hme (dx.same up5) (show Dd K (hideV D (U.view H6)) y e from (show Dd K (hideV D (U.view H4)) y e from ey).same s5) n H6 ⟨⟨ok5, f5⟩, Same.refl _⟩ _ fun u H7 ok7 s7 du => ?_
      have hl : acc5.length ≤ 100000 := by
        rw [da5.len, List.length_append, lenF, List.length_map, List.length_take, List.length_take]
        have e1 : min i ds.length = i := Nat.min_eq_left (by omega)
        have e2 : min k es.length = k := Nat.min_eq_left hk
        rw [e1, e2]
        have := Nat.mul_le_mul_right es.length (show i + 1 ≤ ds.length by omega)
        rw [Nat.add_mul, Nat.one_mul] at this
        omega
      refine ⟨acc5, U.le _ _ _ ok7.2, Nat.lt_of_le_of_lt hl (by decide), ?_⟩
      obtain ⟨ok8, f8, o8⟩ := U.own (o := .lst (acc5 ++ [u])) ok7.1 ok7.2 rfl
      have k8 : Same (hideV D (U.view H7)) (hideV D (U.view (upd H7 D (.lst (acc5 ++ [u]))))) := fun b v e => hide_at (o8 b v (hide_of e).1 (hide_of e).2) (hide_of e).1
      have s7' : Same (hideV D (U.view H6)) (hideV D (U.view H7)) := s7
      refine ⟨ok8, (s5.trans s7').trans k8, _, f8, ?_⟩
      have st1 : (es.take (k + 1)).map (f d) = (es.take k).map (f d) ++ [f d e] := by
        rw [List.take_add_one, hei, List.map_append]
        rfl
      rw [st1, ← List.append_assoc]
      exact ((da5.same s7').same k8).app (.cons ((show Dd K (hideV D (U.view H7)) u _ from du).same k8) .nil)
    · have e : k = es.length := by omega
      subst e
      rw [List.take_length] at da5
      exact .inl ⟨w1.stops H5 s5, ok5, (s2.trans s4').trans s5, acc5, f5, by rw [st]; exact da5⟩
  · have e : i = ds.length := by omega
    subst e
    rw [List.take_length] at da
    exact .inl ⟨w.stops H2 g2, q _ _ ok2 (s1.trans g2) (.lst f2 (da.same (hide_le _ _))) ((new_none nD).back s1)⟩
/-! a dict whose keys are walked -/
end
section
variable {K : PySem.W.Frag} {H : Hp} {D : Addr} {od : Obj} {kvs : List (Key × V)}
mutual
theorem Dd.off (hD : H D = some (.frz od (.dK kvs))) : ∀ {v : V} {d : PyData}, Dd K H v d → Dd K (hideV D H) v d
  | _, _, .non => .non
  | _, _, .bl b => .bl b
  | _, _, .int i => .int i
  | _, _, .str x => .str x
  | _, _, .lst h a => .lst (hide_at h (fun z => by
      rw [z, hD] at h
      cases h)) (DdAll.off hD a)
  | _, _, .tup h a => .tup (by
      rcases h with (h | ⟨o, h⟩) | h
      · exact .inl (.inl (hide_at h (fun z => by
          rw [z, hD] at h
          cases h)))
      · exact .inl (.inr ⟨o, hide_at h (fun z => by
          rw [z, hD] at h
          cases h)⟩)
      · exact .inr h) (DdAll.off hD a)
  | _, _, .dic h a b => .dic (hide_at h (fun z => by
      rw [z, hD] at h
      cases h)) (DdAll.off hD a) (DdAll.off hD b)
theorem DdAll.off (hD : H D = some (.frz od (.dK kvs))) : ∀ {vs : List V} {ds : List PyData}, DdAll K H vs ds → DdAll K (hideV D H) vs ds
  | _, _, .nil => .nil
  | _, _, .cons h a => .cons (Dd.off hD h) (DdAll.off hD a)
end
end
section
variable {K : PySem.W.Frag} {U : Wo} {W : Wd} {M : Hp} {σ : L2.St} {n k k0 m : Nat} {te ta tb : TE} {t : TA} {tt tu : TT} {H : Hp} {D : Addr} {kvs : List (Key × V)}
theorem e1_lock {d : PyData} (hD : M D = some (.dK kvs)) (h : ∀ od M2, M2 D = some (.frz od (.dK kvs)) → Same (hideV D M) M2 → E1 K U M2 te σ d) : E1 K U M (tLockE te) σ d := fun n H a Q q => by
  have hV := a.up _ _ hD
  refine ⟨D, .dK kvs, U.le _ _ _ hV, trivial, fun od => ?_⟩
  obtain ⟨ok2, f2, o2⟩ := U.own (o := .frz od (.dK kvs)) a.ok hV rfl
  refine h od (U.view (upd H D (.frz od (.dK kvs)))) f2 (fun b u e => o2 b u (hide_of e).1 (a.up _ _ (hide_of e).2)) n _ ⟨ok2, Same.refl _⟩ _ fun v H3 ok3 s3 d3 => ?_
  have f3 := s3 _ _ f2
  refine ⟨U.le _ _ _ f3, ?_⟩
  obtain ⟨ok4, f4, o4⟩ := U.own (o := .dK kvs) ok3 f3 rfl
  refine q v _ ok4 (fun b u e => ?_) ((Dd.off f3 d3).same fun b u e => o4 b u (hide_of e).1 (hide_of e).2)
  by_cases z : b = D
  · rw [z, hV] at e
    rw [z, f4]
    exact e
  · exact o4 b u z (s3 _ _ (o2 b u z e))
theorem i1_keys {i : Nat} {od : Obj} (h : σ[i]? = some (some (.ref D))) (hD : M D = some (.frz od (.dK kvs))) : I1 K U M (iKeys (tVar i)) σ (kvs.map fun p => keyD p.1) := fun n H a R r => by
  refine ⟨_, h, D, od, rfl, .inl ⟨kvs, U.le _ _ _ (a.up _ _ hD), r _ H a.ok (Same.refl _) ?_⟩⟩
  rw [List.length_map]
  refine walk_keys.mono (fun H2 s2 => U.le _ _ _ (s2 _ _ (a.up _ _ hD))) (fun i H2 x H3 hi s2 y => ⟨y.1, ?_⟩)
  obtain ⟨kk, v, e1, rfl⟩ := y.2
  refine ⟨keyD kk, by rw [List.getElem?_map, e1] <;> rfl, ?_⟩
  cases kk with
  | inl i => exact .int i
  | inr x => exact .str x
theorem e1_fget {i j : Nat} {od : Obj} {x : Str} {u v : V} {d : PyData} (h : σ[i]? = some (some (.ref D))) (hj : σ[j]? = some (some v)) (hv : Dd K M v (.str x)) (hD : M D = some (.frz od (.dK kvs))) (g : valV kvs (.inr x : Key) = some u) (hd : Dd K M u d) :
    E1 K U M (tDGet (tVar i) (tVar j)) σ d := fun n H a Q q => by
  cases hv
  exact ⟨_, h, _, hj, D, u, rfl, .inl ⟨kvs, .inr x, .inr ⟨od, U.le _ _ _ (a.up _ _ hD)⟩, rfl, g.symm⟩, q _ H a.ok (Same.refl _) (hd.same a.up)⟩
end
end Mw
/-! ### objects that change, draws of many kinds -/
namespace Mw
open PySem PySem.Spec PyProof PyProof.Rows L2
abbrev rRepr (K : PySem.W.Frag) : List V → Hp → VK → Prop := fun xs H Q => ∃ v d, xs = [v] ∧ Dd K H v d ∧ Fit d ∧ Q (.str d.shown) H
section
variable {K : PySem.W.Frag} {U : Wo} {W : Wd} {M : Hp} {σ : L2.St} {n k k0 k1 k2 m i j : Nat} {te ta tb : TE} {t : TA} {tt tu : TT} {D : Ends} {H : Hp} {R : PyData → Prop} {S : List PyData → Prop}
theorem e1_repr {d : PyData} (h : E1 K U M te σ d) (f : Fit d) : E1 K U M (tCB (rRepr K) (tCons te tNil)) σ (.str d.shown) := fun n H a Q q => h n H a _ fun v H1 ok1 s1 d1 => ⟨v, d, rfl, d1.same (U.le _), f, q _ H1 ok1 s1 (.str _)⟩
theorem e1_min {i j : Int} (ha : E1 K U M ta σ (.int i)) (hb : E1 K U M tb σ (.int j)) : E1 K U M (tCB (fun xs H Q => ∃ i j, xs = [.int i, .int j] ∧ Q (.int (if j < i then j else i)) H) (tCons ta (tCons tb tNil))) σ (.int (if j < i then j else i)) := fun n H a Q q =>
  ha n H a _ fun v H1 ok1 s1 d1 => hb n H1 (a.step ok1 s1) _ fun w H2 ok2 s2 d2 => by
    cases d1
    cases d2
    exact ⟨i, j, rfl, q _ H2 ok2 (s1.trans s2) (.int _)⟩
theorem e1_lenOf {a : Addr} {xs : List V} {i : Nat} (h : σ[i]? = some (some (.ref a))) (hS : SqL K M a xs) : E1 K U M (tCB (fun xs H Q => ∃ x n, xs = [x] ∧ LenV K x H n ∧ Q (.int n) H) (tCons (tVar i) tNil)) σ (.int xs.length) := fun n H at_ Q q =>
  ⟨_, h, _, xs.length, rfl, .inl ⟨xs, (U.le _).seq (at_.up.seq hS), rfl⟩, q _ H at_.ok (Same.refl _) (.int _)⟩
theorem same_shown {a : Str} : (!decide (a = a)) = false := by rw [decide_eq_true rfl] <;> rfl
/-- a for that draws -/
theorem s3_for {wi : TI} {j : Nat} {P : List PyData → Prop} {tb : TS} (a : At U n M H) (hn : n + (k0 + m * k) ≤ most) (h : I3 K U M k0 wi σ P) (z : ∀ ds, P ds → ds.length ≤ m) (Pv : Nat → L2.St → Hp → Prop) (h0 : ∀ H', Same (U.view H) (U.view H') → Pv 0 σ H')
    (hs : ∀ i n' σ' H' v d (N : L2.St → Hp → Prop), i < m → n' + k ≤ most → Pv i σ' H' → At U n' M H' → Same (U.view H) (U.view H') → Dd K (U.view H') v d → (∀ σ2 H2, Pv (i + 1) σ2 H2 → At U (n' + k) M H2 → Same (U.view H') (U.view H2) → N σ2 H2) →
      tb { D with nx := N, ct := N, bk := D.nx } (σ'.set j (some v)) H')
    (hd : ∀ i σ' H', i ≤ m → Pv i σ' H' → At U (n + (k0 + m * k)) M H' → Same (U.view H) (U.view H') → D.nx σ' H') : tFor wi (gName j) tb D σ H :=
  h n H a (by omega) _ fun J ds H1 p ok1 s1 w => by
    have hm := z ds p
    have hmk := Nat.mul_le_mul_right k hm
    refine for_it w (fun i σ' H' => Pv i σ' H' ∧ At U (n + k0 + i * k) M H' ∧ Same (U.view H1) (U.view H')) ⟨h0 _ s1, ⟨by rw [Nat.zero_mul]; exact ok1, a.up.trans s1⟩, Same.refl _⟩ (fun i σ' H' _ z => z.2.2) ?_ ?_
    · rintro i x σ' H2 H3 hi ⟨pv, a2, s2⟩ ⟨rfl, d, hd, dx⟩
      have hik : i * k + k ≤ m * k := by
        have := Nat.mul_le_mul_right k (show i + 1 ≤ m by omega)
        rwa [Nat.add_mul, Nat.one_mul] at this
      exact hs i _ σ' H3 x d _ (by omega) (by omega) pv a2 (s1.trans s2) (dx.same s2) fun σ2 H4 p2 a4 s4 => ⟨p2, ⟨by rw [Nat.add_mul, Nat.one_mul, ← Nat.add_assoc]; exact a4.ok, a4.up⟩, s2.trans s4⟩
    · rintro σ' H2 ⟨pv, a2, s2⟩
      exact hd _ _ _ hm pv ⟨U.mono a2.ok (by omega), a2.up⟩ (s1.trans s2)
/-! draws of many kinds -/
theorem A3.weak {S' : List PyData → Prop} (h : A3 K U M k t σ S) (l : ∀ d, S d → S' d) : A3 K U M k t σ S' := fun n H a hn Q q => h n H a hn Q fun v d H' r ok s dd => q v d H' (l d r) ok s dd
theorem A1.a3 {ds : List PyData} (h : A1 K U M t σ ds) : A3 K U M 0 t σ (fun es => es = ds) := fun n H a _ Q q => h n H a Q fun vs H' ok s dd => q vs ds H' rfl ok s dd
theorem a3_consH (h : E3 K U M k1 te σ R) (hs : A3 K U M k2 t σ S) : A3 K U M (k1 + k2) (tCons te t) σ (fun ds => ∃ d es, ds = d :: es ∧ R d ∧ S es) := fun n H a hn Q q =>
  h n H a (by omega) _ fun v d H1 r1 ok1 s1 d1 => hs (n + k1) H1 ⟨ok1, a.up.trans s1⟩ (by omega) _ fun vs ds H2 r2 ok2 s2 d2 => q _ (d :: ds) H2 ⟨d, ds, rfl, r1, r2⟩ (by rw [← Nat.add_assoc]; exact ok2) (s1.trans s2) (.cons (d1.same s2) d2)
theorem a3_consE {d : PyData} (h : E1 K U M te σ d) (hs : A3 K U M k2 t σ S) : A3 K U M k2 (tCons te t) σ (fun ds => ∃ es, ds = d :: es ∧ S es) := fun n H a hn Q q =>
  h n H a _ fun v H1 ok1 s1 d1 => hs n H1 (a.step ok1 s1) hn _ fun vs ds H2 r2 ok2 s2 d2 => q _ (d :: ds) H2 ⟨ds, rfl, r2⟩ ok2 (s1.trans s2) (.cons (d1.same s2) d2)
theorem e3_lstH (h : A3 K U M k t σ S) (z : ∀ ds, S ds → ds.length ≤ 100000) : E3 K U M k (tLst t) σ (fun d => ∃ ds, d = .list ds ∧ S ds) := fun n H a hn Q q =>
  h n H a hn _ fun vs ds H1 r ok1 s1 d1 => ⟨thousand (by rw [d1.len]; exact z ds r), fun p np => by
    obtain ⟨ok2, s2, f2, _⟩ := U.new (o := .lst vs) ok1 np rfl
    exact q _ _ _ ⟨ds, rfl, r⟩ ok2 (s1.trans s2) (.lst f2 (d1.same s2))⟩
theorem e3_shufH (o : Of U W) (hv : σ[i]? = some (some (.ref W.d))) (h : E3 K U M k ta σ (fun d => ∃ ds, d = .list ds ∧ S ds)) (hm : ∀ ds, S ds → ds.length = m) (hl : m ≤ 100000) (hg : ∀ ds, S ds → ∀ e ∈ ds, e.canLay0 = true ∧ e.depth ≤ 60) :
    E3 K U M (k + m) (tGo (spShuf K) (tCons (tVar i) (tCons ta tNil))) σ (fun d => ∃ ds es, S ds ∧ d = .list es ∧ es.Perm ds) := fun n H a hn Q q =>
  ⟨_, hv, h n H a (by omega) _ fun v d H1 r ok1 s1 d1 => by
    obtain ⟨ds, rfl, sd⟩ := r
    have lm := hm ds sd
    cases d1 with
    | lst hq ha =>
      rename_i p xs
      refine ⟨W, n + k, _, _, rfl, o.st ok1, by rw [ha.len]; omega, by rw [ha.len]; omega, .inl (.inl (.inl (o.le _ _ _ hq))), fun x hx => ?_, fun l ys H2 hp nl hl2 S2 e2 => ?_⟩
      · obtain ⟨f, hf, df⟩ := ha.mem hx
        exact ⟨f, (df.same (o.le _)).dp (hg ds sd f hf).1, (hg ds sd f hf).1, (hg ds sd f hf).2⟩
      · obtain ⟨ok2, s2⟩ := o.go ok1 S2 e2
        obtain ⟨es, p1, p2⟩ := DdAll.perm hp ha
        rw [ha.len, lm, Nat.add_assoc] at ok2
        exact q _ _ _ ⟨ds, es, sd, rfl, p1⟩ ok2 (s1.trans s2) (.lst (o.new ok1 nl hl2) (p2.same s2))⟩
theorem e3_dgetH {x : Str} (h : E3 K U M k te σ (fun d => ∃ e ps, d = .dict ((.str x, e) :: ps) ∧ R e)) : E3 K U M k (tDGet te (tC (.str x))) σ R := fun n H a hn Q q => h n H a hn _ fun v d H1 r ok1 s1 d1 => by
  obtain ⟨e, ps, rfl, re⟩ := r
  cases d1 with
  | dic hq hk hv =>
    rename_i b kvs
    cases kvs with
    | nil => cases hk
    | cons kv kvs =>
      obtain ⟨ky, y⟩ := kv
      cases hk with
      | cons k1 k2 =>
        cases hv with
        | cons v1 v2 =>
          have e : ky = .inr x := by
            cases ky with
            | inl i => cases k1
            | inr z =>
              cases k1
              rfl
          subst e
          refine ⟨_, y, rfl, ?_, q _ _ H1 re ok1 s1 v1⟩
          have g := DGet.k (k := (Sum.inr x : Key)) (U.le _ _ _ hq)
          rw [valV_pos rfl] at g
          exact g
/-! two new objects; objects of one's own that change -/
theorem s1_parN {d e : PyData} (a : At U n M H) (h1 : E1N K U M ta σ d) (h2 : E1N K U M tb σ e) (q : ∀ v w H', At U n (U.view H') H' → Same (U.view H) (U.view H') → Dd K (U.view H') v d → Dd K (U.view H') w e → New U H v → New U H w → D.nx ((σ.set i (some v)).set j (some w)) H') : tPar i j (tCons ta (tCons tb tNil)) D σ H :=
  h1 n H a _ fun v H1 ok1 s1 d1 n1 => h2 n H1 (a.step ok1 s1) _ fun w H2 ok2 s2 d2 n2 => ⟨v, w, rfl, q v w H2 (At.here ok2) (s1.trans s2) (d1.same s2) d2 n1 (n2.back s1)⟩
theorem s1_dclear {p : Addr} {kvs : List (Key × V)} (hi : σ[i]? = some (some (.ref p))) (hp : U.view H p = some (.dK kvs)) (ok : U.ok n H) (hM : M p = none) (up : Same M (U.view H)) (q : ∀ H', At U n M H' → (∀ a u, a ≠ p → U.view H a = some u → U.view H' a = some u) → D.nx σ H') : tDrop (tBM0 K "dict" rDClear (tVar i)) D σ H :=
  ⟨_, hi, .inr (.inr (.inl ⟨rfl, .inl ⟨_, U.le _ _ _ hp⟩⟩)), p, kvs, rfl, rfl, U.le _ _ _ hp, by
    obtain ⟨ok1, f1, o1⟩ := U.own (o := .dK []) ok hp rfl
    exact q _ ⟨ok1, U.keep o1 hM up⟩ o1⟩
theorem s1_push {p : Addr} {xs : List V} {y : V} (hi : σ[i]? = some (some (.ref p))) (hp : U.view H p = some (.lst xs)) (hl : xs.length ≤ 100000) (ok : U.ok n H) (hM : M p = none) (up : Same M (U.view H)) (q : ∀ H', At U n M H' → (∀ a u, a ≠ p → U.view H a = some u → U.view H' a = some u) → D.nx σ H') :
    tDrop (tBM K "list" rAppend (tVar i) (tCons (tC y) tNil)) D σ H :=
  ⟨_, hi, .inl ⟨rfl, xs, .inl (.inl (U.le _ _ _ hp))⟩, p, xs, y, rfl, rfl, U.le _ _ _ hp, Nat.lt_of_le_of_lt hl (by decide), by
    obtain ⟨ok1, f1, o1⟩ := U.own (o := .lst (xs ++ [y])) ok hp rfl
    exact q _ ⟨ok1, U.keep o1 hM up⟩ o1⟩
/-! operators -/
theorem r1_ixL {ds : List PyData} {j : Nat} {d : PyData} (hj : ds[j]? = some d) : R1 K U (rIxL K) (.list ds) (.int j) d := fun n H x y ok h1 h2 Q q => by
  cases h1 with
  | lst hq ha =>
    cases h2
    rename_i p xs
    have lt : j < xs.length := by
      rw [ha.len]
      exact (List.getElem?_eq_some_iff.mp hj).1
    have hv := List.getElem?_eq_getElem lt
    obtain ⟨d', e1, e2⟩ := ha.at hv
    rw [hj] at e1
    cases e1
    exact ⟨_, _, _, _, rfl, rfl, .inl (.inl (U.le _ _ _ hq)), atI_nat hv, q _ H ok (Same.refl _) e2⟩
theorem r1_notB {a b : Bool} : R1 K U rNotB (.bool a) (.bool b) (.bool (!decide (a = b))) := fun n H x y ok h1 h2 Q q => by
  cases h1
  cases h2
  exact ⟨a, b, rfl, rfl, q _ H ok (Same.refl _) (.bl _)⟩
/-- {x: j} == {x: j} -/
theorem r1_eqV1 {x : Str} {j : Int} : R1 K U (rEqV K) (.dict [(.str x, .int j)]) (.dict [(.str x, .int j)]) (.bool true) := fun n H v w ok h1 h2 Q q => by
  have one : ∀ {v : V}, Dd K (U.view H) v (.dict [(.str x, .int j)]) → ∃ a, v = .ref a ∧ U.view H a = some (.dK [(.inr x, .int j)]) := fun {v} h => by
    cases h with
    | dic hq hk hv =>
      rename_i a kvs
      match kvs, hk, hv with
      | [(ky, y)], .cons k1 .nil, .cons v1 .nil =>
        have e : ky = .inr x := by
          cases ky with
          | inl i => cases k1
          | inr z =>
            cases k1
            rfl
        cases v1
        subst e
        exact ⟨a, rfl, hq⟩
  obtain ⟨a, rfl, ha⟩ := one h1
  obtain ⟨b, rfl, hb⟩ := one h2
  refine ⟨1, by decide, .inr ⟨a, b, _, _, rfl, rfl, U.le _ _ _ ha, U.le _ _ _ hb, rfl, fun p hp => ?_⟩, q _ H ok (Same.refl _) (.bl _)⟩
  rw [List.mem_singleton.mp hp]
  exact ⟨.int j, valV_pos rfl, .inl ⟨rfl, rfl⟩⟩
/-- [e for x, y in pairs if ..], none of which is taken -/
theorem e1_lcP0 {wi : TI} {i j : Nat} {vs : List Nat} {ds : List (PyData × PyData)} (h : I1 K U M wi σ (ds.map fun q => .tuple [q.1, q.2])) (hw : ∀ x y, wipe (((wipe σ vs).set i (some x)).set j (some y)) vs = wipe σ vs)
    (ht : ∀ (U' : Wo) M' v u q, Same M M' → q ∈ ds → Dd K M' v q.1 → Dd K M' u q.2 → T1 U' M' tt (((wipe σ vs).set i (some v)).set j (some u)) false) :
    E1 K U M (tLc wi (gTup K 2 (gCons (gName i) (gCons (gName j) gNil))) tt te vs) σ (.list []) := fun n H a Q q => h n H a _ fun J H1 ok1 s1 w => by
  intro D nD
  have nD0 : U.view H1 D = none := by
    cases e : U.view H1 D with
    | none => rfl
    | some o =>
      rw [U.le _ _ _ e] at nD
      cases nD
  have off : Same (U.view H1) (hideV D (U.view H1)) := fun b o e => hide_at e (fun q => by
    rw [q, nD0] at e
    cases e)
  refine lc_it w (fun i H' => U.ok n H' ∧ Same (U.view H1) (hideV D (U.view H')) ∧ U.view H' D = some (.lst [])) ?_ (fun i H' _ z => z.2.1.trans (hide_le _ _)) ?_ ?_
  · obtain ⟨ok2, s2, f2, _⟩ := U.new (o := .lst []) ok1 nD rfl
    exact ⟨ok2, off.trans (hide_same s2), f2⟩
  · rintro i' x H2 H3 hi ⟨ok2, s2, f2⟩ ⟨rfl, d, hd, dx⟩
    rw [List.getElem?_map] at hd
    obtain ⟨p, hp, rfl⟩ := Option.map_eq_some_iff.mp hd
    have hm : p ∈ ds := List.mem_of_getElem? hp
    cases dx with
    | tup hq ha =>
      rename_i b xs
      obtain ⟨v, u, rfl, dv, du⟩ : ∃ v u, xs = [v, u] ∧ Dd K (U.view H1) v p.1 ∧ Dd K (U.view H1) u p.2 := by
        cases ha with
        | cons a b =>
          cases b with
          | cons c e =>
            cases e
            exact ⟨_, _, rfl, a, c⟩
      refine ⟨b, [v, u], rfl, seqT (s2.trans ((hide_le D _).trans (U.le _))) hq, rfl, v, [u], rfl, u, [], rfl, rfl, hw v u, ?_⟩
      refine ht (U.hide D (.lst [])) (U.view H1) v u p (a.up.trans s1) hm dv du n _ ⟨⟨ok2, f2⟩, s2⟩ _ fun H4 ok4 s4 => ?_
      exact iteF ⟨ok4.1, s2.trans s4, ok4.2⟩
  · rintro H2 ⟨ok2, s2, f2⟩
    exact q _ _ ok2 (s1.trans (s2.trans (hide_le _ _))) (.lst f2 .nil)
end
def swap2 {α : Type} : List α → List α
  | [a, b] => [b, a]
  | l => l
end Mw
/-! ### defs that may raise, defs that are told something of the state -/
namespace Mw
open PySem PySem.Spec PyProof.Rows L2
abbrev Rel := List Env → Shared → Hp → Prop
def anyR : Rel := fun _ _ _ => True
structure FnR (P : Program) (w : World) (K : PySem.W.Frag) (mg : Str → Option Value) (base : Heap) (cx : CXT) (R : Rel) (k : Nat) (f : Addr) (fd : FuncData) (ps : List Str) (sp : Sp) : Prop where
  ln : ∀ vs H Q E, sp vs H Q E → vs.length = ps.length
  go : ∀ (A : Around) (out : List Env) (s : Shared) (H : Hp) (args : Args) (us : List Value) (vs : List V) (Q : VK) (E : XK), Rm k A → Env0 P w K mg base A out s H → R out s H →
    BindsTo s fd args (ps.zip us) → Vals vs us → sp vs H Q E → codeAny (model P w) A (.call (.ref f) args) (CR cx out P w H s Q E) s
section
variable {P : Program} {w : World} {K : PySem.W.Frag} {mg : Str → Option Value} {base : Heap} {cx : CXT} {R : Rel}
theorem FnR.mono {j k : Nat} {f : Addr} {fd : FuncData} {ps : List Str} {sp : Sp} (F : FnR P w K mg base cx R j f fd ps sp) (h : j ≤ k) : FnR P w K mg base cx R k f fd ps sp :=
  ⟨F.ln, fun A out s H args us vs Q E hr => F.go A out s H args us vs Q E (hr.mono h)⟩
theorem fnR {x qual : Str} {st : Stmt} {f : Addr} {fd : FuncData} {N ps : List Str} {k : Nat} {sp : Sp} (F : Fun K x qual st f fd) (S : FnScope N ps (defScope st)) (ln : ∀ vs H Q E, sp vs H Q E → vs.length = ps.length)
    (body : ∀ (cdv : Value) (A : Around) (out : List Env) (s : Shared) (H : Hp) (vs : List V) (Q : VK) (E : XK), Rm k (A.deeper (envOfC qual (defScope st) s.heap.objs.size f cdv)) → R out s H → sp vs H Q E →
      ∃ t, PSs (cxOf cx P w K mg base N qual (defScope st) f cdv A out s H E) (defBody st) t ∧ t { nx := fun _ H' => Q .non H', rt := Q } (start N vs) H) : FnR P w K mg base cx R (k + 1) f fd ps sp := by
  obtain ⟨oc, od, kV, doc, pm, an, cdv, ct, osl, rfl, look, code⟩ := F.ex
  refine ⟨ln, ?_⟩
  intro A out s H args us vs Q E room e0 hR binds rel promise
  have stay : ∀ b o, base.get? b = some o → s.heap.get? b = some o := fun b o z => (e0.bs b o z).1
  have inK : K.In s.heap := e0.mod.kin.keeps stay
  have named : ∀ y ∈ ps.zip us, (defScope st).names.lookup y.1 = some .local ∨ ((defScope st).names.lookup y.1 = some .cell ∧ ((cellsFrom (s.heap.objs.size + 1) (defScope st).names []).lookup y.1).isSome = true) := by
    intro y hy
    have hp : y.1 ∈ ps := (List.of_mem_zip (a := y.1) (b := y.2) hy).1
    cases S.par y.1 hp with
    | inl z => exact .inl z
    | inr z => exact .inr ⟨z, PySem.W.cellsFrom_some _ _ _ (.inl z)⟩
  refine codeAny_call_function room.r.depth (inK _ _ look) rfl S.co S.gen rfl (PySem.W.codeRec_of inK code) (binds _ _ _ _ ?_)
  refine wpAny_newFunctionEnv_cells S.kind named ?_
  intro env same s1 began
  cases same
  refine ⟨(e0.mod.nolimit.keeps stay).keeps began.toInCall.keep, codeAny_func ?_⟩
  obtain ⟨t, ht, hq⟩ := body cdv A out s H vs Q E ⟨room.r.deeper _, room.g⟩ hR promise
  have I := inv_start (CX := cx) (E := E) (qual := qual) (N := N) S room.r.hd e0 (ln _ _ _ _ promise) rel began
  have leave : ∀ {σ' : L2.St} {H' : Hp} {v : V} {u : Value} {s' : Shared}, Inv (cxOf cx P w K mg base N qual (defScope st) f cdv A out s H E) [] σ' H' s' → RelV v u → Q v H' → CE out P w H s Q u s' := by
    intro σ' H' v u s' J rv q
    exact ⟨v, H', J.os, J.bare, J.base, J.hok, rv, q⟩
  refine wpAny_mono (ht.run [] s1 (start N vs) H _ I hq) ?_ ?_
  · intro fl s' done
    have z := body_end done
    cases fl with
    | next =>
      obtain ⟨v, σ', H', J, r, q⟩ := z
      exact leave J r q
    | ret u =>
      obtain ⟨v, σ', H', J, r, q⟩ := z
      exact leave J r q
    | brk => exact z.elim
    | cont => exact z.elim
  · intro e s' z
    exact z
end
structure DefR (P : Program) (w : World) (K : PySem.W.Frag) (mg : Str → Option Value) (base : Heap) (cx : CXT) (R : Rel) (x : Str) (k : Nat) (ps : List Str) (sp : Sp) : Prop where
  ex : ∃ (f : Addr) (fd : FuncData), mg x = some (.ref f) ∧ PySem.W.keepIn K (.ref f) = true ∧ Binds K fd ps [] ∧ FnR P w K mg base cx R k f fd ps sp
structure DefRK (P : Program) (w : World) (K : PySem.W.Frag) (mg : Str → Option Value) (base : Heap) (cx : CXT) (R : Rel) (x : Str) (k : Nat) (ps ks : List Str) (gV : List V → List V) (sp : Sp) : Prop where
  ex : ∃ (f : Addr) (fd : FuncData) (g : List Value → List Value → List Value), mg x = some (.ref f) ∧ PySem.W.keepIn K (.ref f) = true ∧ KBn K fd ps 0 ks g (fun _ zs => gV zs) ∧ FnR P w K mg base cx R k f fd ps sp
section
variable {X : Cx} {cx : CXT} {R : Rel} {k : Nat} {ps : List Str} {sp : Sp} {E : XK} {x : Str} {p pos : Pos} {e : Expr} {es : List Expr} {t : TA}
theorem callR {pins : List (Addr × Obj)} {σ : L2.St} {H : Hp} {s : Shared} {Q : VK} {f : Addr} {fd : FuncData} {args : Args} {us : List Value} {vs : List V} (F : FnR X.prog X.w X.K X.mg X.base cx R k f fd ps sp) (hr : Rm k X.A) (hR : R X.stack s H) (hx : Passes cx X E)
    (hb : BindsTo s fd args (ps.zip us)) (I : Inv X pins σ H s) (r : Vals vs us) (h : sp vs H Q E) :
    codeAny (model X.prog X.w) X.A (.call (.ref f) args) (fun r s' => match r with | .ok (.ret u) => EP X pins σ Q u s' | .ok _ => False | .error e => X.xe e s') s := by
  refine codeAny_mono (F.go X.A X.stack s H args us vs Q E hr I.env0 hR hb r h) ?_
  intro res s' done
  cases res with
  | error e => exact hx pins σ H s e s' I done
  | ok fl =>
    cases fl with
    | ret u => exact I.after done
    | next => exact done.elim
    | brk => exact done.elim
    | cont => exact done.elim
def tGoE (sp : Sp) (E : XK) (t : TA) : TE := fun σ H Q => t σ H fun vs H1 => sp vs H1 Q E
theorem pe_goE (D : DefR X.prog X.w X.K X.mg X.base cx R x k ps sp) {j : Nat} (hr : Rm j X.A) (hR : ∀ pins σ H s, Inv X pins σ H s → R X.stack s H) (hx : Passes cx X E) (ha : PA X (e :: es) t) (hj : k ≤ j := by decide) (hg : Gl X x := by rfl) (hdb : (x == ("__debug__" : Str)) = false := by decide)
    (he : starEach (e :: es) X.env = (false, eval e X.env) :: starEach es X.env := by rfl) (hpl : (backTo pos (starEach es X.env)).any (·.1) = false := by rfl) :
    PE X (.Call (.Name x p) (e :: es) [] pos) (tGoE sp E t) := by
  obtain ⟨f, fd, g, kp, b, F⟩ := D.ex
  constructor
  intro pins s σ H Q I h
  refine wpAny_Call_Name_kw (ld_glob I hg g ?_ hdb)
  refine PySem.W.callWith_K (h₀ := X.base) I.ok.mod.kin kp (thn (ha.run pos pins s σ H _ I h) ?_) he hpl
  rintro us s1 ⟨vs, H1, I1, r, q⟩
  refine ⟨I1.kIn, wpAny_call (codeAny_mono (callR F (hr.mono hj) (hR _ _ _ _ I1) hx (us := us) ?_ I1 r q) ?_)⟩
  · have z := b s1 us I1.kIn (by rw [List.append_nil, ← r.length]; exact F.ln _ _ _ _ q)
    rwa [List.append_nil] at z
  · intro res s' z
    cases res with
    | error e => exact z
    | ok fl =>
      cases fl with
      | ret u => exact z
      | next => exact z.elim
      | brk => exact z.elim
      | cont => exact z.elim
def tGoEK (n : Nat) (sp : Sp) (E : XK) (gV : List V → List V) (tk : TA) : TE := fun σ H Q => tk σ H fun zs H1 => zs.length = n ∧ sp (gV zs) H1 Q E
theorem pe_goEK {kws : List Keyword} {ks : List Str} {gV : List V → List V} {tk : TA} (D : DefRK X.prog X.w X.K X.mg X.base cx R x k ps ks gV sp) {j : Nat} (hr : Rm j X.A) (hR : ∀ pins σ H s, Inv X pins σ H s → R X.stack s H) (hx : Passes cx X E) (hkw : PK X kws tk) (hj : k ≤ j := by decide) (hg : Gl X x := by rfl)
    (hall : (backToKw pos (keywordEach kws X.env)).all (·.1.isSome) = true := by rfl) (hks : (backToKw pos (keywordEach kws X.env)).filterMap (·.1) = ks := by rfl) (hdb : (x == ("__debug__" : Str)) = false := by decide)
    (plain : ((backTo pos (starEach [] X.env)).any (·.1) || (backToKw pos (keywordEach kws X.env)).any (·.1.isNone)) = false := by rfl) :
    PE X (.Call (.Name x p) [] kws pos) (tGoEK ks.length sp E gV tk) := by
  obtain ⟨f, fd, g, hm, kp, b, F⟩ := D.ex
  constructor
  intro pins s σ H Q I h
  refine wpAny_Call_Name_kw (ld_glob I hg hm ?_ hdb)
  refine PySem.W.callWith_KW0 (h₀ := X.base) I.ok.mod.kin kp hall ?_ plain
  refine thn (hkw.run pos pins s σ H _ I h) ?_
  rintro ws s2 ⟨zs, H2, I2, rz, l2, q2⟩
  refine ⟨I2.kIn, ?_⟩
  rw [hks]
  have rel : Vals (gV zs) (g [] ws) := b.rel (vs := []) .nil rz
  refine wpAny_call (codeAny_mono (callR F (hr.mono hj) (hR _ _ _ _ I2) hx (us := g [] ws) (b.to s2 [] ws I2.kIn rfl (rz.length.symm.trans l2)) I2 rel q2) ?_)
  intro res s' z
  cases res with
  | error e => exact z
  | ok fl =>
    cases fl with
    | ret u => exact z
    | next => exact z.elim
    | brk => exact z.elim
    | cont => exact z.elim
end
/-- in a def that may raise, what a callee lets out goes on -/
theorem pass_on {X : Cx} {E : XK} (tk : Takes X fun cls d _ H => E cls d H) : Passes (L2.CX X.prog X.w) X E := passes_call tk fun _ _ _ _ h => h
/-! an own class of errors -/
def bmV : List Value := [.type "ValueError", .type "Exception", .type "BaseException", .type "object"]
structure ErrC (K : PySem.W.Frag) (mg : Str → Option Value) (x : Str) (C : Addr) : Prop where
  ex : PySem.W.excIn K C bmV "ValueError.__new__" = true
  g : mg x = some (.ref C)
  k : PySem.W.keepIn K (.ref C) = true
  b : PySem.W.subIn K (.ref C) (.type "BaseException") = some true
  t : PySem.W.typeIn K (.ref C) = some (.type "type")
theorem ps_raiseC {X : Cx} {E : XK} {x m : Str} {C : Addr} {j : Nat} {p p2 pos rpos : Pos} (c : ErrC X.K X.mg x C) (hc : X.calm = true) (tk : Takes X fun cls d _ H => E cls d H) (hg : Gl X x) (hdb : (x == ("__debug__" : Str)) = false := by decide) :
    PS X (.Raise (some (.Call (.Name x p) [.Constant (.str m) j p2] [] pos)) none rpos) (fun _ _ H => E (.ref C) none H) :=
  ps_raise hc tk (pmk_own PySem.F.excBase_ValueError c.ex c.g c.k (raises_own c.b c.t) hg hdb)
end Mw
/-! ### errors that are caught and kept -/
namespace Mw
open PySem PySem.Spec PyProof.Rows L2
/-- an error of the class cls that was raised once, at a -/
def ErO (cls : Value) (a : Addr) : HO := .ext fun h => ∃ (oe : Obj) (vs : Array Value), h.get? a = some oe ∧ Zc cls none oe ∧ oe.data = .fields vs
theorem erO_ok {P : Program} {w : World} {H : Hp} {h : Heap} {a : Addr} {cls : Value} {oe : Obj} {vs : Array Value} (e : h.get? a = some oe) (z : Zc cls none oe) (d : oe.data = .fields vs) : ObjOk P w H h a (ErO cls a) := by
  refine ⟨⟨oe, vs, e, z, d⟩, ⟨oe, e⟩, ?_⟩
  rintro h1 h2 ⟨o, v, k1, k2, k3⟩ st
  exact ⟨o, v, st o k1, k2, k3⟩
section
variable {X : Cx} {pins : List (Addr × Obj)} {σ : L2.St} {H : Hp} {s : Shared}
/-- a thing that came up since the def began is told of from now on -/
theorem inv_tell {a : Addr} {oe : Obj} {vs : Array Value} {o : HO} (I : Inv X pins σ H s) (ha : s.heap.get? a = some oe) (hd : oe.data = .fields vs) (na : H a = none) (n0 : X.s_0.heap.get? a = none) (nL : a ≠ X.env.locals) (np : ∀ p ∈ X.pn ++ pins, p.1 ≠ a)
    (new : ObjOk X.prog X.w (upd H a o) s.heap a o) : Inv X pins σ (upd H a o) s := by
  have off : ∀ b u, H b = some u → b ≠ a := fun b u e => ne_of_none e na
  have old : ∀ b u, X.s_0.heap.get? b = some u → b ≠ a := by
    intro b u e z
    rw [z, n0] at e
    cases e
  have cellOff : ∀ x c, X.env.cells.lookup x = some c → c ≠ a := by
    intro x c e z
    obtain ⟨v, ob, h1, h2⟩ := I.cell x c e
    rw [z, ha] at h1
    cases h1
    rw [hd] at h2
    cases h2
  refine ⟨I.ok, I.os, I.bare, ⟨I.base.keep, I.base.slot, ?_, I.base.there, ?_, ?_, ?_⟩, I.loc, I.cell, ?_, ?_, ?_, ?_, I.len⟩
  · intro b u e n hx
    rw [upd_ne (old b u e)]
    exact I.base.free b u e n hx
  · intro b xs e
    have z := I.base.tups b xs e
    rw [upd_ne (off b _ z)]
    exact z
  · intro b u xs e
    have z := I.base.frzs b u xs e
    rw [upd_ne (off b _ z)]
    exact z
  · intro b ps e
    obtain ⟨m, z⟩ := I.base.tbls b ps e
    exact ⟨m, by rw [upd_ne (off b _ z)]; exact z⟩
  · rw [upd_ne (Ne.symm nL)]
    exact I.free
  · intro x c e
    rw [upd_ne (cellOff x c e)]
    exact I.freeC x c e
  · intro p hp
    obtain ⟨h1, h2, h3, h4, h5⟩ := I.pin p hp
    exact ⟨h1, by rw [upd_ne (np p hp)]; exact h2, h3, h4, h5⟩
  · intro b u e
    by_cases hb : b = a
    · subst hb
      rw [upd_same] at e
      cases e
      exact new
    · rw [upd_ne hb] at e
      exact (I.hok b u e).stay (fun _ _ _ q => q) (fun c q => by rw [upd_ne (off c _ q)]; exact q) fun c xs q => by rw [upd_ne (off c _ q)]; exact q
end
/-- what the clause 'except x as n' wishes, the error being kept -/
def wKeep (K : PySem.W.Frag) (c : Value) (i : Nat) (ts : Addr → Value → TS) (D : Ends) : WX := fun cls d σ H =>
  d = none ∧ PySem.W.exmOne K cls c = some true ∧ ∀ a, H a = none → ts a cls { D with nx := fun σ' H' => D.nx (σ'.set i none) (upd H' a (ErO cls a)), rt := fun _ _ => False, bk := fun _ _ => False, ct := fun _ _ => False } (σ.set i (some (.ref a))) H
section
variable {X : Cx} {x n : Str} {c : Value} {i : Nat} {body suite : List Stmt} {b₀ : Stmt} {np pos pos' : Pos} {tb : WX → TS} {ts : Addr → Value → TS}
theorem ps_try_keep (hst : X.stack = X.env :: X.outer) (hfr : X.env.frame = some X.env.locals) (hex : X.ex = []) (hN : X.N.Nodup) (hi : X.N[i]? = some n) (hln : X.env.kindOf n = some .local) (hc : Names X x c)
    (hb : ∀ (W : WX) (pn : List (Addr × Obj)) (xe : Value → Shared → Prop), Takes (X.tr pn xe) W → PSs (X.tr pn xe) body (tb W))
    (hsu : ∀ (a : Addr) (oe : Obj) (cls : Value) (pn : List (Addr × Obj)), PSs (X.suite a ((a, oe) :: pn)) (b₀ :: suite) (ts a cls)) :
    PS X (.Try body [.ExceptHandler (some (.Name x np)) (some n) (b₀ :: suite) pos'] [] [] pos) (fun D σ H => tb (wKeep X.K c i ts D) D σ H) := by
  constructor
  intro pins s0 σ0 H0 D I h
  have ok := I.ok
  have frames : X.A.frames = some (X.env :: X.outer) := ok.frames.trans (congrArg some hst)
  let hands := [ExceptHandler.ExceptHandler (some (.Name x np)) (some n) (b₀ :: suite) pos']
  let after : Value → Shared → Prop := fun e s₁ => wpAny (model X.prog X.w) X.A (noteFrame e X.env) (fun _ s₂ =>
    wpAny (model X.prog X.w) X.A (setFlight e none) (fun _ s₃ => wpAny (model X.prog X.w) X.A (handleBy e X.env hands) (SP X pins D) X.xe s₃) X.xe s₂) X.xe s₁
  have taken : Takes (X.tr (X.pn ++ pins) after) (wKeep X.K c i ts D) := by
    rintro u s1 ⟨a, B, sI, pinsI, σI, HI, cls, d, rfl, JI, nb, up, sky, na, os, ag, rfl, hsub, wish⟩
    have J : Inv X pins σI HI sI := JI.ofTry ok
    have sky2 : Sky B (X.env :: X.outer) a (Zc cls none) X.env.locals s1.heap := hst ▸ sky
    have skyB : B.get? a = none := by
      rcases sky with ⟨_, z, _⟩ | fl | hd
      · exact z
      · exact fl.2.1
      · exact hd.2.1
    have notF : a ∉ frs X.stack := by
      have ff : ∃ (h : Heap) (oe : Obj) (vs : Array Value), h.FunFrames B X.stack ∧ h.get? a = some oe ∧ oe.data = .fields vs := by
        rcases sky with ⟨_, _, z, oe, vs, e1, _, e2, _⟩ | fl | hd
        · exact ⟨_, oe, vs, z, e1, e2⟩
        · obtain ⟨_, _, z, oe, vs, _, _, _, e1, _, e2, _⟩ := fl
          exact ⟨_, oe, vs, z, e1, e2⟩
        · obtain ⟨_, _, z, oe, vs, _, _, _, e1, _, e2, _⟩ := hd
          exact ⟨_, oe, vs, z, e1, e2⟩
      obtain ⟨h, oe, vs, z, e1, e2⟩ := ff
      intro hm
      obtain ⟨_, o2, e3, nofl⟩ := z.mem hm
      rw [e1] at e3
      cases e3
      exact nofl _ e2
    have newA : sI.heap.get? a = none := by
      cases e : sI.heap.get? a with
      | none => rfl
      | some o =>
        have z := nb a o e notF
        rw [skyB] at z
        cases z
    have newS : X.s_0.heap.get? a = none := by
      cases e : X.s_0.heap.get? a with
      | none => rfl
      | some o =>
        obtain ⟨o2, z⟩ := J.base.there a o e (fun z => nomatch (hex ▸ z : a ∈ ([] : List Addr)))
        rw [newA] at z
        cases z
    have pinA : ∀ p ∈ X.pn ++ pins, p.1 ≠ a := by
      intro p hp z
      have y := (J.pin p hp).1
      rw [z, newA] at y
      cases y
    have notL : a ≠ X.env.locals := fun z => notF (by
      rw [hst]
      exact List.mem_filterMap.mpr ⟨X.env, List.mem_cons_self, z ▸ hfr⟩)
    have notFs : a ∉ X.fs := fun hm => by
      obtain ⟨e, he, q⟩ := List.mem_filterMap.mp hm
      exact notF (hst ▸ List.mem_filterMap.mpr ⟨e, List.mem_cons_of_mem _ he, q⟩)
    refine Sky.land Zc.steady frames hfr sky2 (fun g fg ug => ?_)
    have Jg : Inv X pins σI HI { s1 with heap := g } := J.landed nb fg.1 (up.trans ug) os ag
    obtain ⟨og, vg, eg, zg, dg⟩ := fg.there
    have Sg := Jg.suite eg dg na notL notFs
    refine wpAny_handleBy_cons (codeAny_handlers_test ?_) (fun q => nomatch q)
    have tyA : PySem.W.Looks (model X.prog X.w) g (typeOf (.ref a)) cls := fun A2 Q2 E2 s2 k2 q2 => wpAny_typeOf_ref (k2 _ _ eg) (by
      rw [zg.1]
      exact q2)
    have meets := PySem.W.exm_one (M := model X.prog X.w) Jg.kIn tyA hsub
    have named : ∀ {Q2 E2 : Value → Shared → Prop}, Q2 c { s1 with heap := g } → wpAny (model X.prog X.w) (X.A.mark (some (.ref a))) (eval (.Name x np) X.env) Q2 E2 { s1 with heap := g } := by
      intro Q2 E2 q2
      obtain ⟨k1, k2, k3⟩ := hc
      rcases k3 with k3 | ⟨k3, k4, k5⟩
      · exact ld_glob (X := X.suite a ((a, og) :: (X.pn ++ pins))) Sg k1 k3 q2 k2
      · exact ld_blt (X := X.suite a ((a, og) :: (X.pn ++ pins))) Sg k1 k3 k4 q2 k5 k2
    refine named (meets.here (codeAny_handlers_suite_as ?_))
    refine HandSPX.lands_againZ fg (fun g2 fg2 ug2 => ?_)
    have Jh : Inv X pins σI HI { s1 with heap := g2 } := J.landed nb fg2.1 ((up.trans ug).trans ug2) os ag
    obtain ⟨oh, vh, eh, zh, dh⟩ := fg2.there
    have Sh := Jh.suite eh dh na notL notFs
    refine store_ok (X := X.suite a ((a, oh) :: (X.pn ++ pins))) (v := .ref a) Sh hN hi (.inl hln) rfl (fun s5 S5 => ?_) (.inr hln)
    refine wpAny_mono ((hsu a oh cls (X.pn ++ pins)).run [] s5 _ HI _ S5 (wish a na)) (fun fl s6 done => ?_) (fun _ _ z => z.elim)
    cases fl with
    | next =>
      obtain ⟨σ6, H6, S6, q6⟩ := done
      obtain ⟨p1, p2, _⟩ := S6.pin (a, oh) (List.mem_append_left _ List.mem_cons_self)
      have J6 : Inv X pins σ6 H6 s6 := S6.unsuite ok
      have at6 : ∀ s7, Inv X pins (σ6.set i none) H6 s7 → s7.heap.get? a = some oh → SP X pins D .next s7 := fun s7 J7 e7 =>
        ⟨_, _, inv_tell J7 e7 dh p2 newS notL pinA (erO_ok e7 zh dh), q6⟩
      have K6 : Inv X ((a, oh) :: pins) σ6 H6 s6 := ⟨ok, J6.os, J6.bare, J6.base, J6.loc, J6.cell, J6.free, J6.freeC, fun p hp => S6.pin p (by
        rw [List.append_nil]
        rcases List.mem_append.mp hp with z | z
        · exact List.mem_cons_of_mem _ (List.mem_append_left _ z)
        · rcases List.mem_cons.mp z with z | z
          · rw [z]
            exact List.mem_cons_self
          · exact List.mem_cons_of_mem _ (List.mem_append_right _ z)), J6.hok, J6.len⟩
      refine gone_ok K6 hN hi hln (fun s7 K7 => at6 s7 ⟨K7.ok, K7.os, K7.bare, K7.base, K7.loc, K7.cell, K7.free, K7.freeC, fun p hp => K7.pin p ?_, K7.hok, K7.len⟩ (K7.pin (a, oh) (List.mem_append_right _ List.mem_cons_self)).1)
      rcases List.mem_append.mp hp with z | z
      · exact List.mem_append_left _ z
      · exact List.mem_append_right _ (List.mem_cons_of_mem _ z)
    | brk =>
      obtain ⟨_, _, _, z⟩ := done
      exact z.elim
    | cont =>
      obtain ⟨_, _, _, z⟩ := done
      exact z.elim
    | ret u =>
      obtain ⟨_, _, _, _, _, z⟩ := done
      exact z.elim
  refine wpAny_Try_except (wpAny_mono ((hb (wKeep X.K c i ts D) (X.pn ++ pins) after taken).run [] s0 σ0 H0 D (I.toTry _) h) (fun fl s1 done => ?_) (fun _ _ z => z))
  cases fl with
  | next =>
    obtain ⟨σ1, H1, J1, q1⟩ := done
    exact wpAny_execs_nil ⟨σ1, H1, J1.ofTry ok, q1⟩
  | brk =>
    obtain ⟨σ1, H1, J1, q1⟩ := done
    exact ⟨σ1, H1, J1.ofTry ok, q1⟩
  | cont =>
    obtain ⟨σ1, H1, J1, q1⟩ := done
    exact ⟨σ1, H1, J1.ofTry ok, q1⟩
  | ret u =>
    obtain ⟨v1, σ1, H1, J1, r1, q1⟩ := done
    exact ⟨v1, σ1, H1, J1.ofTry ok, r1, q1⟩
end
/-! isinstance of an error that was kept -/
def rIsKept (K : PySem.W.Frag) : List V → Hp → VK → Prop := fun xs H Q => ∃ (a D : Addr) (c : V) (cv : Value) (b : Bool), xs = [.ref a, c] ∧ H a = some (ErO (.ref D) a) ∧ ExcC K D ∧ (∀ u, RelV c u → u = cv) ∧ PySem.W.kitOne K (.ref D) cv = some b ∧ Q (.bl b) H
theorem call_isKept {X : Cx} : CallR X (.builtin "isinstance") (rIsKept X.K) := by
  intro pins s σ H xs us Q I r h
  obtain ⟨a, D, c, cv, b, rfl, ha, C, hcv, e, q⟩ := h
  cases r with
  | cons r1 rr =>
    cases rr with
    | cons r2 rr =>
      cases rr
      cases r1
      have ec := hcv _ r2
      subst ec
      obtain ⟨⟨oe, vs, h1, ⟨h2, h3⟩, h4⟩, _, _⟩ := I.hok a _ ha
      have at_ : PySem.W.InstAt s.heap a oe D none := by
        obtain ⟨oc, od, oda, osl⟩ := oe
        dsimp only at h2 h3 h4
        subst h2 h3 h4
        exact ⟨h1, rfl, rfl, trivial⟩
      refine PySem.W.kia_one (PySem.W.handS_kitx_exc C.hg C.hk C.hs C.hd C.ha C.hn C.ht C.hm) I.kIn at_ e (fun z => nomatch z) (fun tk => ?_)
      exact ⟨.bl b, H, I.kept (t' := tk) fun _ _ z => z, rfl, q⟩
/-! how often a flat thing stands in a list -/
def rCntF (K : PySem.W.Frag) : V → List V → Hp → VK → Prop := fun x xs H Q => ∃ (p : Addr) (ys : List V) (y : V), x = .ref p ∧ xs = [y] ∧ SqL K H p ys ∧ flatV y = true ∧ ys.all flatV = true ∧ Q (.int (ys.countP (fun z => eqV z y) : Nat)) H
theorem count_flat {y : V} : ∀ {ys : List V} {us : List Value}, Vals ys us → ys.all flatV = true → us.countP (eqU y) = ys.countP (fun z => eqV z y)
  | [], _, .nil, _ => rfl
  | z :: ys, u :: us, .cons r rs, f => by
    rw [List.all_cons, Bool.and_eq_true] at f
    have ih := count_flat (y := y) rs f.2
    rw [List.countP_cons, List.countP_cons, ih, eqU_of r f.1]
theorem mt_countF {X : Cx} : MtR X "list.count" (rCntF X.K) := by
  intro pins s σ H x xs v us Q I rx rxs h
  obtain ⟨p, ys, y, rfl, rfl, hs, fy, fys, q⟩ := h
  cases rx
  cases rxs with
  | cons ry rt =>
    cases rt
    rename_i uy
    obtain ⟨its, rv, ⟨⟨cls, dd, data, sl⟩, n, ho, hc, hdn, hd⟩, hlen⟩ := I.list hs
    dsimp only at hc hd
    subst hc hd
    have same := count_flat (y := y) rv fys
    refine call_meets PySem.F.slot_list_count ⟨_, ho, rfl⟩ PySem.F.entry_list_count (PySem.F.args_list_count_2 _ _)
      (SeqAt.list_countAt p its.toArray n dd sl uy (eqU y)) ⟨ho, fun u hu => mem_eqAt ry fy rv fys u (by simpa using hu), ?_⟩
    refine ⟨.int (ys.countP (fun z => eqV z y) : Nat), H, I.tok _, ⟨s.toks, ?_⟩, q⟩
    show Value.int ((its.countP (eqU y) : Nat) : Int) s.toks = _
    rw [same]
end Mw
/-! ### jobs: lambdas that are called further in -/
namespace Mw
open PySem PySem.Spec PyProof.Rows L2
/-- the state out, s, H has come of s0, H0, with frames of its own -/
structure Since (fs : List Addr) (s0 : Shared) (H0 : Hp) (out : List Env) (s : Shared) (H : Hp) : Prop where
  un : Un fs [] H0 H s0.heap s.heap
  fr : ∀ b ∈ frs out, b ∈ fs ∨ s0.heap.get? b = none
theorem no_mem {b : Addr} : b ∉ ([] : List Addr) := fun z => nomatch z
theorem Since.on {fs : List Addr} {s0 : Shared} {H0 : Hp} {X : Cx} {pins : List (Addr × Obj)} {σ : L2.St} {H : Hp} {s : Shared} (I : Inv X pins σ H s) (hst : X.stack = X.env :: X.outer) (hfr : X.env.frame = some X.env.locals) (hex : X.ex = [])
    (h : Since fs s0 H0 X.outer X.s_0 X.H_0) : Since fs s0 H0 X.stack s H := by
  have noEx : ∀ {b : Addr}, b ∉ X.ex := fun {b} z => no_mem (hex ▸ z : b ∈ ([] : List Addr))
  have apart : ∀ b o, s0.heap.get? b = some o → b ∉ fs → b ∉ X.fs := by
    intro b o e nb hm
    rcases h.fr b hm with z | z
    · exact nb z
    · rw [z] at e
      cases e
  refine ⟨⟨?_, ?_, ?_, ?_, ?_, ?_, ?_⟩, ?_⟩
  · intro b o e n hb _
    exact I.base.keep b o (h.un.keep b o e n hb no_mem) (h.un.free b o e n no_mem) (apart b o e hb) noEx
  · intro b o e n hb _
    obtain ⟨sl, z⟩ := h.un.any e n no_mem
    obtain ⟨sl2, z2⟩ := I.base.any z (h.un.free b o e n no_mem) noEx
    exact ⟨sl2, z2⟩
  · intro b o e n _
    obtain ⟨o2, z⟩ := h.un.there b o e no_mem
    exact I.base.free b o2 z (h.un.free b o e n no_mem) noEx
  · intro b o e _
    obtain ⟨o2, z⟩ := h.un.there b o e no_mem
    exact I.base.there b o2 z noEx
  · exact fun b xs e => I.base.tups b xs (h.un.tups b xs e)
  · exact fun b o u e => I.base.frzs b o u (h.un.frzs b o u e)
  · intro b ps e
    obtain ⟨m1, z1⟩ := h.un.tbls b ps e
    obtain ⟨m2, z2⟩ := I.base.tbls b _ z1
    exact ⟨m1 ++ m2, by rw [z2, Array.append_assoc]⟩
  · intro b hb
    rw [hst] at hb
    obtain ⟨e, he, q⟩ := List.mem_filterMap.mp hb
    rcases List.mem_cons.mp he with rfl | he
    · refine .inr ?_
      rw [hfr] at q
      cases q
      cases z : s0.heap.get? X.env.locals with
      | none => rfl
      | some o =>
        obtain ⟨o2, z2⟩ := h.un.there _ o z no_mem
        exact absurd (Nat.lt_of_lt_of_le (Heap.lt_size z2) I.ok.above) (Nat.lt_irrefl _)
    · exact h.fr b (List.mem_filterMap.mpr ⟨e, he, q⟩)
/-- f is called without arguments: tl tells what is asked for, wherever R holds -/
structure Job (P : Program) (w : World) (K : PySem.W.Frag) (mg : Str → Option Value) (base : Heap) (R : Rel) (k : Nat) (f : Addr) (tl : XK → Hp → VK → Prop) : Prop where
  isF : ∀ out s H, R out s H → PySem.W.FnAt f s.heap
  go : ∀ (A : Around) (out : List Env) (s : Shared) (H : Hp) (Q : VK) (E : XK), Rm k A → Env0 P w K mg base A out s H → R out s H → tl E H Q → codeAny (model P w) A (.call (.ref f) ⟨[], []⟩) (CR (L2.CX P w) out P w H s Q E) s
section
variable {X : Cx} {pins : List (Addr × Obj)} {σ : L2.St} {H : Hp} {s : Shared}
theorem job_of {scope : Scope} {f c' : Addr} {params : Arguments} {body : Expr} {pm ctv : Value} {k : Nat} {tb : XK → TE} (I : Inv X pins σ H s) (L : LamX.LamS X.env.scope scope)
    (hf : s.heap.get? f = some (PySem.W.kla_obj "<lambda>" (X.env.qual ++ "<lambda>") params body scope (cloFrom X.env.cells scope.names []) pm c' ctv)) (hfn : H f = none) (hff : f ∉ frs X.stack)
    (hbind : bindArgs (PySem.W.kla_fn "<lambda>" (X.env.qual ++ "<lambda>") params body scope (cloFrom X.env.cells scope.names []) pm (.ref c') ctv) ⟨[], []⟩ = pure [])
    (hbody : ∀ (A : Around) (out : List Env) (s1 : Shared) (H1 : Hp) (E : XK), Rm k (A.deeper (LamX.lamEnv X scope s1.heap.objs.size f c')) → PE (LamX.lamCx X A out s1 H1 E scope f c') body (tb E)) :
    Job X.prog X.w X.K X.mg X.base (Since (frs X.stack) s H) (k + 1) f (fun E H1 Q => H1 c' = some (LamX.CodeO c' (X.env.qual ++ "<lambda>")) ∧ tb E σ H1 Q) := by
  have there : ∀ out s1 H1, Since (frs X.stack) s H out s1 H1 → s1.heap.get? f = some (PySem.W.kla_obj "<lambda>" (X.env.qual ++ "<lambda>") params body scope (cloFrom X.env.cells scope.names []) pm c' ctv) := fun out s1 H1 h => h.un.keep f _ hf hfn hff no_mem
  refine ⟨fun out s1 H1 h => ⟨_, _, _, _, there out s1 H1 h⟩, ?_⟩
  rintro A out s1 H1 Q E room e0 since ⟨hc, ht⟩
  obtain ⟨⟨oc, vs, t, k1, k2, k3⟩, _, _⟩ := e0.hok c' _ hc
  refine PySem.W.kla_callFunE room.r.depth (there out s1 H1 since) rfl L.co L.gen rfl ⟨c', oc, vs, t, rfl, k1, k2, k3⟩ ?_
  rw [hbind]
  refine wpAny_pure (wpAny_newFunctionEnv ?_ ?_ ?_ L.kind)
  · exact fun y hy => (L.own y hy).2
  · exact fun y hy => nomatch hy
  intro h₁ ns but
  have lim : s1.heap.NoLimit := e0.mod.nolimit.keeps fun b o z => (e0.bs b o z).1
  refine ⟨lim.fresh _ but, ?_⟩
  have keeps : ∀ b o, s1.heap.get? b = some o → h₁.get? b = some o := fun b o e => but.extBut b o (Nat.ne_of_lt (Heap.lt_size e)) (Heap.get?_push_of_some _ e)
  have J := LamX.lam_start2 (E := E) (f := f) (c' := c') (tk := s1.toks + ([] : List (Str × Value)).length) I L e0 room.r.hd since.un ns keeps
  refine PySem.W.kla_codeExpr (wpAny_mono ((hbody A out s1 H1 E ⟨room.r.deeper _, room.g⟩).run [] _ _ H1 Q J ht) ?_ ?_)
  · rintro v s2 ⟨v', H', J', rv, q⟩
    exact ⟨v', H', J'.os, J'.bare, J'.base, J'.hok, rv, q⟩
  · exact fun e s2 z => z
end
/-- job() -/
theorem pe_job {X : Cx} {W : WX} {R : Rel} {k i : Nat} {nm : Str} {f : Addr} {tl : XK → Hp → VK → Prop} {p1 p2 : Pos} (J : Job X.prog X.w X.K X.mg X.base R k f tl) (hr : Rm k X.A) (hR : ∀ pins σ H s, Inv X pins σ H s → R X.stack s H) (tk : Takes X W)
    (hN : X.N[i]? = some nm) (hv : Vis X.env.scope nm) (hd : (nm == ("__debug__" : Str)) = false := by decide) (hcd : (nm == ("__classdict__" : Str)) = false := by decide) :
    PE X (.Call (.Name nm p1) [] [] p2) (fun σ H Q => σ[i]? = some (some (.ref f)) ∧ ∃ (E0 : XK) (Q0 : VK), tl E0 H Q0 ∧ (∀ v H', Q0 v H' → Q v H') ∧ ∀ cls d H', E0 cls d H' → W cls d σ H') := by
  constructor
  rintro pins s σ H Q I ⟨hs, E0, Q0, ht, toQ, toE⟩
  refine wpAny_Call_Name_kw (thn ((pe_var (pos := p1) (i := i) hN hv hd hcd).run pins s σ H (fun v H1 => v = .ref f ∧ H1 = H) I ⟨.ref f, hs, rfl, rfl⟩) ?_)
  rintro u s1 ⟨v, H1, I1, r1, rfl, rfl⟩
  obtain rfl : u = Value.ref f := r1
  have rel := hR _ _ _ _ I1
  refine PySem.W.callWith_F0 (J.isF _ _ _ rel) (wpAny_call (codeAny_mono (J.go X.A X.stack s1 H1 Q0 E0 hr I1.env0 rel ht) ?_))
  intro res s2 done
  cases res with
  | error e =>
    obtain ⟨a, B, H2, cls, d, k1, k2, k3, k4, k5, k6, k7, k8⟩ := done
    exact passAt tk σ pins H1 s1 e s2 I1 ⟨a, B, H2, cls, d, k1, k2, k3, k4, k5, k6, k7, toE _ _ _ k8⟩
  | ok fl =>
    cases fl with
    | ret u =>
      obtain ⟨v, H2, k1, k2, k3, k4, k5, k6⟩ := done
      exact I1.after ⟨v, H2, k1, k2, k3, k4, k5, toQ _ _ k6⟩
    | next => exact done.elim
    | brk => exact done.elim
    | cont => exact done.elim
/-! the lambda is made -/
def TabP (H : Hp) (P : Addr) (q : Str) : Prop := LamX.TabS H P q
/-- H1 is H, or its table at P has grown by a code object -/
structure Grown (H H1 : Hp) (P c' : Addr) (q : Str) : Prop where
  tab : LamX.TabS H1 P q
  code : H1 c' = some (LamX.CodeO c' q)
  is : H1 = H ∨ ∃ ps ps' : Array Value, H P = some (.tbl ps) ∧ H c' = none ∧ H1 = upd (upd H P (.tbl ps')) c' (LamX.CodeO c' q)
section
variable {X : Cx} {pins : List (Addr × Obj)} {σ : L2.St} {H : Hp} {s : Shared}
theorem lam_new {c P : Addr} {params : Arguments} {body : Expr} {scope : Scope} {pos : Pos} {E Q : Value → Shared → Prop} (I : Inv X pins σ H s) (TB : LamX.TabB X.base X.mg c P) (hcode : X.env.code = .ref c) (hT : LamX.TabS H P (X.env.qual ++ "<lambda>"))
    (hdef : defaultsOf params X.env = ([], [])) (hfree : ∀ y ∈ scope.names, y.2 = .free → ∃ c, X.env.cells.lookup y.1 = some c)
    (h : ∀ (f c' : Addr) (pm ctv : Value) (H1 : Hp) (s' : Shared), Inv X pins σ H1 s' → Grown H H1 P c' (X.env.qual ++ "<lambda>") →
      s'.heap.get? f = some (PySem.W.kla_obj "<lambda>" (X.env.qual ++ "<lambda>") params body scope (cloFrom X.env.cells scope.names []) pm c' ctv) → H1 f = none → f ∉ frs X.stack → Q (.ref f) s') :
    wpAny (model X.prog X.w) X.A (eval (.Lambda params body scope pos) X.env) Q E s := by
  obtain ⟨ps, isT, triples, known⟩ := hT
  have tabAt : s.heap.get? P = some { cls := .none, data := .fields ps } := I.hok P _ isT
  have builtins : s.heap.BuiltinsAt X.mg P := TB.bm.keeps I.bk
  have high : ∀ f, s.heap.objs.size ≤ f → f ∉ frs X.stack := by
    intro f hf z
    rcases List.mem_cons.mp (I.stkSub _ z) with e | e
    · exact absurd (Nat.lt_of_lt_of_le (e ▸ I.lt) hf) (Nat.lt_irrefl _)
    · exact I.nofs hf e
  refine PySem.W.kla_eval hdef ?_
  cases found : codeAmong pos ps.toList with
  | some cv =>
    obtain ⟨c', rfl, isC⟩ := known pos cv found
    refine PySem.W.kla_makeFunctionHit (mg := X.mg) (c := c) (P := P) (ps := ps) (closure_ok hfree) I.ok.glob (I.mod.glob.keeps I.bk) hcode (TB.code.keeps I.bk) tabAt triples found builtins ?_
    intro ctv h' tk more size
    refine h h'.objs.size c' ((X.mg "__name__").getD .none) ctv H _ (I.kept (t' := tk) fun b o e => ?_) ⟨⟨ps, isT, triples, known⟩, isC, .inl rfl⟩ (Heap.get?_push_size _ rfl) (I.hok.fresh size) (high _ size)
    exact Heap.get?_push_of_some _ (more b o e)
  | none =>
    refine PySem.W.kla_makeFunction (mg := X.mg) (c := c) (P := P) (ps := ps) (closure_ok hfree) I.ok.glob (I.mod.glob.keeps I.bk) hcode (TB.code.keeps I.bk) tabAt triples found TB.gP builtins ?_
    intro c' ctv h' tk but ge lt record table
    obtain ⟨c2, oc, vs, t, e2, k1, k2, k3⟩ := record
    cases e2
    have size : s.heap.objs.size ≤ h'.objs.size := Nat.le_trans ge (Nat.le_of_lt lt)
    have freeC : H c' = none := I.hok.fresh ge
    have J := LamX.inv_table (q := X.env.qual ++ "<lambda>") (t' := tk) (more := #[rawInt pos.line, rawInt pos.col, .ref c']) (h' := h'.push (PySem.W.kla_obj "<lambda>" (X.env.qual ++ "<lambda>") params body scope (cloFrom X.env.cells scope.names []) ((X.mg "__name__").getD .none) c' ctv)) I isT
      (fun b o hb e => Heap.get?_push_of_some _ (but b o hb e)) (Heap.get?_push_of_some _ table) ge ⟨oc, vs, t, Heap.get?_push_of_some _ k1, k2, k3⟩
    have nP : P ≠ c' := ne_of_none isT freeC
    have rest : ∀ b o, b ≠ P → H b = some o → upd (upd H P (.tbl (ps ++ #[rawInt pos.line, rawInt pos.col, .ref c']))) c' (LamX.CodeO c' (X.env.qual ++ "<lambda>")) b = some o := fun b o hb e => by
      rw [upd_ne (ne_of_none e freeC), upd_ne hb]
      exact e
    have list : (ps ++ #[rawInt pos.line, rawInt pos.col, .ref c']).toList = ps.toList ++ [rawInt pos.line, rawInt pos.col, .ref c'] := by simp
    refine h h'.objs.size c' ((X.mg "__name__").getD .none) ctv _ _ J ⟨⟨ps ++ #[rawInt pos.line, rawInt pos.col, .ref c'], ?_, ?_, ?_⟩, upd_same, .inr ⟨ps, _, isT, freeC, rfl⟩⟩ (Heap.get?_push_size _ rfl) ?_ (high _ size)
    · rw [upd_ne nP, upd_same]
    · rw [list]
      exact PySem.TriplesOk_snoc _ _ _ _ triples
    · intro p2 cv hcv
      rw [list] at hcv
      rcases LamX.among_app _ triples hcv with z | z
      · obtain ⟨c0, e1, e2⟩ := known p2 cv z
        refine ⟨c0, e1, rest _ _ (fun z => ?_) e2⟩
        rw [z, isT] at e2
        exact LamX.codeO_ne ps (Option.some.inj e2).symm
      · exact ⟨c', z, upd_same⟩
    · have n1 : h'.objs.size ≠ c' := Nat.ne_of_gt lt
      have n2 : h'.objs.size ≠ P := Nat.ne_of_gt (Nat.lt_of_lt_of_le (Heap.lt_size tabAt) size)
      rw [upd_ne n1, upd_ne n2]
      exact I.hok.fresh size
end
/-! a def that is handed a lambda -/
abbrev TLam := (XK → Hp → VK → Prop) → Hp → VK → Prop
def spJob (TT : TLam) (tl : XK → Hp → VK → Prop) (f : Addr) : Sp := fun vs H Q _ => vs = [.ref f] ∧ TT tl H Q
structure JobDef (P : Program) (w : World) (K : PySem.W.Frag) (mg : Str → Option Value) (base : Heap) (x : Str) (kj k : Nat) (ps : List Str) (TT : TLam) : Prop where
  ex : ∃ (g : Addr) (fd : FuncData), mg x = some (.ref g) ∧ PySem.W.keepIn K (.ref g) = true ∧ Binds K fd ps [] ∧
    ∀ (fs : List Addr) (s0 : Shared) (H0 : Hp) (f : Addr) (tl : XK → Hp → VK → Prop), Job P w K mg base (Since fs s0 H0) kj f tl → FnR P w K mg base CX0 (Since fs s0 H0) k g fd ps (spJob TT tl f)
def tLamJ (P : Addr) (q : Str) (TT : TLam) (tb : XK → TE) : TE := fun σ H Q => LamX.TabS H P q ∧ ∀ H1 c', Grown H H1 P c' q → TT (fun E H2 Q2 => H2 c' = some (LamX.CodeO c' q) ∧ tb E σ H2 Q2) H1 Q
theorem pe_lamJ {X : Cx} {x a : Str} {kj k j : Nat} {TT : TLam} {c P : Addr} {params : Arguments} {body : Expr} {scope : Scope} {tb : XK → TE} {p lpos pos : Pos} (D : JobDef X.prog X.w X.K X.mg X.base x (kj + 1) k [a] TT) (hr : Rm j X.A) (TB : LamX.TabB X.base X.mg c P) (hcode : X.env.code = .ref c)
    (L : LamX.LamS X.env.scope scope) (hdef : defaultsOf params X.env = ([], [])) (hbind : ∀ (q : Str) (cl : List (Str × Addr)) (pm cv ctv : Value), bindArgs (PySem.W.kla_fn "<lambda>" q params body scope cl pm cv ctv) ⟨[], []⟩ = pure [])
    (hbody : ∀ (A : Around) (out : List Env) (s1 : Shared) (H1 : Hp) (E : XK) (f c' : Addr), Rm kj (A.deeper (LamX.lamEnv X scope s1.heap.objs.size f c')) → PE (LamX.lamCx X A out s1 H1 E scope f c') body (tb E))
    (hj : k ≤ j := by decide) (hg : Gl X x := by rfl) (hdb : (x == ("__debug__" : Str)) = false := by decide) :
    PE X (.Call (.Name x p) [.Lambda params body scope lpos] [] pos) (tLamJ P (X.env.qual ++ "<lambda>") TT tb) := by
  obtain ⟨g, fd, gm, kp, b, made⟩ := D.ex
  constructor
  rintro pins s σ H Q I ⟨hT, h⟩
  refine wpAny_Call_Name_kw (ld_glob I hg gm ?_ hdb)
  refine PySem.W.callWith_K (h₀ := X.base) I.ok.mod.kin kp ?_ (by rfl) (by rfl)
  show wpAny _ _ (spliced ((false, eval (.Lambda params body scope lpos) X.env) :: backTo pos (starEach [] X.env))) _ _ s
  refine Calls.spliced_cons (lam_new I TB hcode hT hdef (L.has I.ok) ?_)
  intro f c' pm ctv H1 s1 I1 grown isF noF offF
  refine Calls.spliced_nil ⟨I1.kIn, ?_⟩
  have job := job_of (tb := tb) I1 L isF noF offF (hbind _ _ _ _ _) (fun A out s2 H2 E hr2 => hbody A out s2 H2 E f c' hr2)
  have F := made (frs X.stack) s1 H1 f _ job
  have bound := b s1 [.ref f] I1.kIn rfl
  rw [List.append_nil] at bound
  refine wpAny_call (codeAny_mono (F.go X.A X.stack s1 H1 _ [.ref f] [.ref f] Q (fun _ _ _ => False) (hr.mono hj) I1.env0 ⟨Un.refl, fun b hb => .inl hb⟩ bound (.cons rfl .nil) ⟨rfl, h H1 c' grown⟩) ?_)
  intro res s2 done
  cases res with
  | error e => exact (show False from done).elim
  | ok fl =>
    cases fl with
    | ret u => exact I1.after done
    | next => exact done.elim
    | brk => exact done.elim
    | cont => exact done.elim
end Mw
namespace Mw
open PySem PySem.Spec PyProof.Rows L2
/-! ### what is caught -/
structure Err (K : PySem.W.Frag) (mg : Str → Option Value) (CW CF CN : Addr) : Prop where
  w : mg "WayError" = some (.ref CW)
  f : ErrC K mg "BadFields" CF
  n : ErrC K mg "BadNumbers" CN
  fx : ExcC K CF
  nx : ExcC K CN
  fw : PySem.W.exmOne K (.ref CF) (.ref CW) = some true
  nw : PySem.W.exmOne K (.ref CN) (.ref CW) = some true
  ff : PySem.W.kitOne K (.ref CF) (.ref CF) = some true
  fn : PySem.W.kitOne K (.ref CF) (.ref CN) = some false
  nf : PySem.W.kitOne K (.ref CN) (.ref CF) = some false
  nn : PySem.W.kitOne K (.ref CN) (.ref CN) = some true
def TCaught (K : PySem.W.Frag) (CW : Addr) : TLam := fun tl H Q => ∃ (E0 : XK) (Q0 : VK), tl E0 H Q0 ∧ (∀ v H', Q0 v H' → Q .non H') ∧
  ∀ cls d H', E0 cls d H' → d = none ∧ PySem.W.exmOne K cls (.ref CW) = some true ∧ ∀ a, H' a = none → Q (.ref a) (upd H' a (ErO cls a))
def TWord (K : PySem.W.Frag) (CF CN : Addr) : TLam := fun tl H Q => ∃ (E0 : XK) (Q0 : VK), tl E0 H Q0 ∧ (∀ v H', Q0 v H' → Q (.str "none") H') ∧
  ∀ cls d H', E0 cls d H' → d = none ∧ ∃ (U : Wo) (n : Nat) (wd : Str), U.ok n H' ∧ ((cls = .ref CF ∧ wd = "fields") ∨ (cls = .ref CN ∧ wd = "numbers")) ∧ ∀ v H'', U.ok n H'' → Same (U.view H') (U.view H'') → Dd K (U.view H'') v (.str wd) → Q v H''
section
variable {P : Program} {w : World} {K : PySem.W.Frag} {mg : Str → Option Value} {base : Heap} {CW CF CN : Addr}
theorem ok_caught {g : Addr} {fd : FuncData} (F : Fun K "_law_caught" "_law_caught" s__law_caught g fd) (C : Err K mg CW CF CN) {kj : Nat} (fs : List Addr) (s0 : Shared) (H0 : Hp) (f : Addr) (tl : XK → Hp → VK → Prop) (J : Job P w K mg base (Since fs s0 H0) kj f tl) :
    FnR P w K mg base CX0 (Since fs s0 H0) (kj + 1) g fd ["job"] (spJob (TCaught K CW) tl f) := by
  refine fnR F sc__law_caught (fun vs H Q E h => by rw [h.1] <;> rfl) (fun cdv A out s H vs Q E hr hR h => ?_)
  obtain ⟨rfl, E0, Q0, ht, toQ, toE⟩ := h
  refine ⟨_, pss_cons (ps_set (i := 1) sc__law_caught.nd rfl (.inl rfl) pe_non)
      (pss_cons (ps_try_keep (i := 2) (c := .ref CW) rfl rfl rfl sc__law_caught.nd rfl rfl ⟨rfl, by decide, .inl C.w⟩
        (fun W pn xe tk => pss_one (ps_expr (pe_job (i := 0) J hr (fun pins σ H s I => Since.on I rfl rfl rfl hR) tk rfl (.inl rfl))))
        (fun a oe cls pn => pss_one (ps_set (i := 1) sc__law_caught.nd rfl (.inl rfl) (pv 2))))
      (pss_one (ps_ret (pv 1)))), ?_⟩
  refine rd_asg (rd_c (rd_name ?_))
  refine ⟨rfl, E0, Q0, ht, fun v H' hq => ?_, fun cls d H' he => ?_⟩
  · exact ⟨.non, rfl, toQ v H' hq⟩
  · obtain ⟨e1, e2, e3⟩ := toE cls d H' he
    refine ⟨e1, e2, fun a na => ?_⟩
    refine ⟨.ref a, rfl, ?_⟩
    exact ⟨.ref a, rfl, e3 a na⟩
end
section
variable {K : PySem.W.Frag} {U : Wo} {M : Hp} {σ : L2.St} {te : TE}
theorem e1_isKept {a D C : Addr} {b : Bool} {i : Nat} (hi : σ[i]? = some (some (.ref a))) (ha : M a = some (ErO (.ref D) a)) (X : ExcC K D) (e : PySem.W.kitOne K (.ref D) (.ref C) = some b) :
    E1 K U M (tCB (rIsKept K) (tCons (tVar i) (tCons (tC (.ref C)) tNil))) σ (.bool b) := fun n H at_ Q q =>
  ⟨_, hi, a, D, .ref C, .ref C, b, rfl, U.le _ _ _ (at_.up _ _ ha), X, fun u r => r, e, q _ H at_.ok (Same.refl _) (.bl b)⟩
theorem flat_bls : ∀ (bs : List Bool), (bs.map V.bl).all flatV = true
  | [] => rfl
  | b :: bs => by rw [List.map_cons, List.all_cons, flat_bls bs] <;> rfl
theorem e1_countF {bs : List Bool} {c : Bool} {m : Nat} (h : E1 K U M te σ (.list (bs.map .bool))) (hm : ((bs.map V.bl).countP fun z => eqV z (.bl c)) = m) : E1 K U M (tBM K "list" (rCntF K) te (tCons (tC (.bl c)) tNil)) σ (.int m) := fun n H at_ Q q => h n H at_ _ fun v H1 ok1 s1 d1 => by
  cases d1 with
  | lst hq ha =>
    have e := bools ha
    subst e
    have hs : SqL K H1 _ _ := .inl (.inl (U.le _ _ _ hq))
    refine ⟨.inl ⟨rfl, _, hs⟩, _, _, .bl c, rfl, rfl, hs, rfl, flat_bls bs, ?_⟩
    rw [hm]
    exact q _ H1 ok1 s1 (.int _)
theorem e1_indexF {bs : List Bool} {c : Bool} {j : Nat} (h : E1 K U M te σ (.list (bs.map .bool))) (h1 : (bs.map V.bl)[j]? = some (.bl c)) (h2 : ∀ (m : Nat) (z : V), m < j → (bs.map V.bl)[m]? = some z → eqV z (.bl c) = false) (h3 : eqV (.bl c) (.bl c) = true) :
    E1 K U M (tBM K "list" (rIndex K) te (tCons (tC (.bl c)) tNil)) σ (.int j) := fun n H at_ Q q => h n H at_ _ fun v H1 ok1 s1 d1 => by
  cases d1 with
  | lst hq ha =>
    have e := bools ha
    subst e
    have hs : SqL K H1 _ _ := .inl (.inl (U.le _ _ _ hq))
    exact ⟨.inl ⟨rfl, _, hs⟩, _, _, .bl c, j, .bl c, rfl, rfl, hs, rfl, flat_bls bs, h1, h3, h2, q _ H1 ok1 s1 (.int _)⟩
end
section
variable {P : Program} {w : World} {K : PySem.W.Frag} {mg : Str → Option Value} {base : Heap} {CW CF CN : Addr}
theorem ok_word {g : Addr} {fd : FuncData} (F : Fun K "_law_word" "_law_word" s__law_word g fd) (T : Blt mg) (C : Err K mg CW CF CN) {kj : Nat} (D : JobDef P w K mg base "_law_caught" kj (kj + 1) ["job"] (TCaught K CW))
    (fs : List Addr) (s0 : Shared) (H0 : Hp) (f : Addr) (tl : XK → Hp → VK → Prop) (J : Job P w K mg base (Since fs s0 H0) kj f tl) : FnR P w K mg base CX0 (Since fs s0 H0) (kj + 2) g fd ["job"] (spJob (TWord K CF CN) tl f) := by
  obtain ⟨gc, fc, gm, kp, b, made⟩ := D.ex
  have DC : DefR P w K mg base CX0 (Since fs s0 H0) "_law_caught" (kj + 1) ["job"] (spJob (TCaught K CW) tl f) := ⟨gc, fc, gm, kp, b, made fs s0 H0 f tl J⟩
  refine fnR F sc__law_word (fun vs H Q E h => by rw [h.1] <;> rfl) (fun cdv A out s H vs Q E hr hR h => ?_)
  obtain ⟨rfl, E0, Q0, ht, toQ, toE⟩ := h
  refine ⟨_, pss_cons (ps_set (i := 1) sc__law_word.nd rfl (.inl rfl) (pe_goE (E := fun _ _ _ => False) DC hr (fun pins σ H s I => Since.on I rfl rfl rfl hR) passAny (pa_cons (pv 0) pa_nil) (Nat.le_refl _)))
      (pss_cons (ps_if (pt_cmpR op_isN (pv 1) pe_non (nomark _))
        (pss_one (ps_ret pe_str))
        pss_nil)
      (pss_cons (ps_set (i := 2) sc__law_word.nd rfl (.inl rfl) (pe_lst (pa_cons (pe_callB call_isKept (by rfl) T.isinstance (by decide +kernel) (pa_cons (pv 1) (pa_cons (pe_glob (v := .ref CF) rfl C.f.g rfl) pa_nil))) (pa_cons (pe_callB call_isKept (by rfl) T.isinstance (by decide +kernel) (pa_cons (pv 1) (pa_cons (pe_glob (v := .ref CN) rfl C.n.g rfl) pa_nil))) pa_nil))))
      (pss_one (ps_ret (pe_ifExp (pt_cmpR op_eq (pe_bm PySem.F.plainAttrs_list PySem.F.slot_list_count PySem.F.type_list_count mt_countF (pv 2) (pa_cons pe_bl pa_nil)) pe_int (nomark _)) (pe_ix ix_list (pe_lst (pa_cons pe_str (pa_cons pe_str pa_nil))) (pe_bm PySem.F.plainAttrs_list PySem.F.slot_list_index PySem.F.type_list_index mt_index (pv 2) (pa_cons pe_bl pa_nil)) (fun _ _ => rfl)) pe_str))))), ?_⟩
  refine ⟨.ref f, rfl, rfl, E0, Q0, ht, fun v H' hq => ?_, fun cls d H' he => ?_⟩
  · refine rd_name ?_
    dsimp only
    refine rd_seq ?_
    refine rd_if ?_
    refine rd_test ?_
    refine ⟨.non, rfl, rfl, _, rfl, Eq.mpr (if_pos (decide_eq_true rfl)) ?_⟩
    exact toQ v H' hq
  · obtain ⟨rfl, U, n, wd, ok, kind, q⟩ := toE cls d H' he
    refine ⟨rfl, ?_, fun a na => ?_⟩
    · rcases kind with ⟨rfl, _⟩ | ⟨rfl, _⟩
      · exact C.fw
      · exact C.nw
    obtain ⟨ok1, s1, f1, _⟩ := U.new (o := ErO cls a) ok na rfl
    refine rd_name ?_
    dsimp only
    refine rd_seq ?_
    refine rd_if ?_
    refine rd_test ?_
    refine ⟨.ref a, rfl, rfl, _, rfl, Eq.mpr (if_neg (by simp)) ?_⟩
    refine rd_next ?_
    dsimp only
    refine rd_seq ?_
    have a1 : At U n (U.view (upd H' a (ErO cls a))) (upd H' a (ErO cls a)) := At.here ok1
    rcases kind with ⟨rfl, rfl⟩ | ⟨rfl, rfl⟩
    · refine s1_asg (K := K) (d := .list ([true, false].map .bool)) a1 (e1_lst (a1_cons (e1_isKept rfl f1 C.fx C.ff) (a1_cons (e1_isKept rfl f1 C.fx C.fn) a1_nil)) (show 2 ≤ 100000 by decide)) fun v2 H2 a2 s2 d2 => ?_
      dsimp only
      refine s1_ret (K := K) (d := .str "fields") a2 (e1_if (b := true) (t1_test (E1.is (e1_op (e1_countF (m := 1) (e1_var rfl d2) (by decide)) e1_int r1_eqI) rfl)) (fun _ => e1_op (e1_lst (a1_cons e1_str (a1_cons e1_str a1_nil)) (show 2 ≤ 100000 by decide)) (e1_indexF (j := 0) (e1_var rfl d2) rfl (fun m z hm => absurd hm (Nat.not_lt_zero m)) (by decide)) (r1_ixL rfl)) (fun z => Bool.noConfusion z)) fun y H3 a3 s3 d3 => ?_
      exact q y H3 a3.ok ((s1.trans s2).trans s3) d3
    · refine s1_asg (K := K) (d := .list ([false, true].map .bool)) a1 (e1_lst (a1_cons (e1_isKept rfl f1 C.nx C.nf) (a1_cons (e1_isKept rfl f1 C.nx C.nn) a1_nil)) (show 2 ≤ 100000 by decide)) fun v2 H2 a2 s2 d2 => ?_
      dsimp only
      refine s1_ret (K := K) (d := .str "numbers") a2 (e1_if (b := true) (t1_test (E1.is (e1_op (e1_countF (m := 1) (e1_var rfl d2) (by decide)) e1_int r1_eqI) rfl)) (fun _ => e1_op (e1_lst (a1_cons e1_str (a1_cons e1_str a1_nil)) (show 2 ≤ 100000 by decide)) (e1_indexF (j := 1) (e1_var rfl d2) rfl (fun m z hm hz => ?_) (by decide)) (r1_ixL rfl)) (fun z => Bool.noConfusion z)) fun y H3 a3 s3 d3 => ?_
      · obtain rfl : m = 0 := by omega
        cases hz
        decide
      · exact q y H3 a3.ok ((s1.trans s2).trans s3) d3
end
end Mw
namespace Mw
open PySem PySem.Spec PyProof.Rows L2
/-! ### defs that yield just this -/
/-- the caller says what it yields, as P tells -/
def spX (K : PySem.W.Frag) (m : Nat) (P : List PyData → PyData → Prop) : Sp := fun vs H Q _ => ∃ (U : Wo) (n : Nat) (ds : List PyData) (e : PyData), U.ok n H ∧ DdAll K (U.view H) vs ds ∧ ds.length = m ∧ P ds e ∧
  ∀ v H', U.ok n H' → Same (U.view H) (U.view H') → Dd K (U.view H') v e → Q v H'
theorem spX_len {K : PySem.W.Frag} {m : Nat} {P : List PyData → PyData → Prop} {vs : List V} {H : Hp} {Q : VK} {E : XK} (h : spX K m P vs H Q E) : vs.length = m := by
  obtain ⟨U, n, ds, e, _, hd, l, _⟩ := h
  rw [hd.len, l]
theorem e1_gox {K : PySem.W.Frag} {U : Wo} {M : Hp} {σ : L2.St} {t : TA} {m : Nat} {P : List PyData → PyData → Prop} {ds : List PyData} {e : PyData} (h : A1 K U M t σ ds) (hm : ds.length = m) (hp : P ds e) : E1 K U M (tGo (spX K m P) t) σ e := fun n H a Q q =>
  h n H a _ fun vs H1 ok1 s1 d1 => ⟨U, n, ds, e, ok1, d1, hm, hp, fun v H2 ok2 s2 d2 => q v H2 ok2 (s1.trans s2) d2⟩
theorem e1_goxK {K : PySem.W.Frag} {U : Wo} {M : Hp} {σ : L2.St} {t : TA} {m j : Nat} {P : List PyData → PyData → Prop} {gV : List V → List V} {ds es : List PyData} {e : PyData} (h : A1 K U M t σ ds) (hj : ds.length = j) (g : ∀ H vs, DdAll K H vs ds → DdAll K H (gV vs) es) (hm : es.length = m) (hp : P es e) :
    E1 K U M (tGoK j (spX K m P) gV t) σ e := fun n H a Q q => h n H a _ fun vs H1 ok1 s1 d1 => ⟨d1.len.trans hj, U, n, es, e, ok1, g _ _ d1, hm, hp, fun v H2 ok2 s2 d2 => q v H2 ok2 (s1.trans s2) d2⟩
/-- .. a new object -/
def spXN (K : PySem.W.Frag) (m : Nat) (P : List PyData → PyData → Prop) : Sp := fun vs H Q _ => ∃ (U : Wo) (n : Nat) (ds : List PyData) (e : PyData), U.ok n H ∧ DdAll K (U.view H) vs ds ∧ ds.length = m ∧ P ds e ∧
  ∀ v H', U.ok n H' → Same (U.view H) (U.view H') → Dd K (U.view H') v e → New U H v → Q v H'
theorem spXN_len {K : PySem.W.Frag} {m : Nat} {P : List PyData → PyData → Prop} {vs : List V} {H : Hp} {Q : VK} {E : XK} (h : spXN K m P vs H Q E) : vs.length = m := by
  obtain ⟨U, n, ds, e, _, hd, l, _⟩ := h
  rw [hd.len, l]
theorem e1_goxN {K : PySem.W.Frag} {U : Wo} {M : Hp} {σ : L2.St} {t : TA} {m : Nat} {P : List PyData → PyData → Prop} {ds : List PyData} {e : PyData} (h : A1 K U M t σ ds) (hm : ds.length = m) (hp : P ds e) : E1N K U M (tGo (spXN K m P) t) σ e := fun n H a Q q =>
  h n H a _ fun vs H1 ok1 s1 d1 => ⟨U, n, ds, e, ok1, d1, hm, hp, fun v H2 ok2 s2 d2 nw => q v H2 ok2 (s1.trans s2) d2 (nw.back s1)⟩
theorem e1_goxKN {K : PySem.W.Frag} {U : Wo} {M : Hp} {σ : L2.St} {t : TA} {m j : Nat} {P : List PyData → PyData → Prop} {gV : List V → List V} {ds es : List PyData} {e : PyData} (h : A1 K U M t σ ds) (hj : ds.length = j) (g : ∀ H vs, DdAll K H vs ds → DdAll K H (gV vs) es) (hm : es.length = m) (hp : P es e) :
    E1 K U M (tGoK j (spXN K m P) gV t) σ e := fun n H a Q q => h n H a _ fun vs H1 ok1 s1 d1 => ⟨d1.len.trans hj, U, n, es, e, ok1, g _ _ d1, hm, hp, fun v H2 ok2 s2 d2 _ => q v H2 ok2 (s1.trans s2) d2⟩
/-! names and numbers -/
def univ : List Str := ["a", "at", "ab", "b", "dst", "note", "marks", "zz", "zzzzzz", "zzzzzy", "drops", "passes", "c", "q"]
def rkL : List Str := ["a", "ab", "at", "b", "c", "drops", "dst", "marks", "note", "passes", "q", "zz", "zzzzzy", "zzzzzz"]
def rk (x : Str) : Int := (rkL.idxOf x : Nat)
theorem rk_lt : ∀ x ∈ univ, ∀ y ∈ univ, ltCps x.cps.toList y.cps.toList = decide (rk x < rk y) := by decide +kernel
theorem rk_inj : ∀ x ∈ univ, ∀ y ∈ univ, rk x = rk y → x = y := by decide +kernel
theorem univ_field : ∀ x ∈ univ, isFieldD (.str x) = true ∧ x.length ≤ 100000 ∧ PyData.strOk x = true := by decide +kernel
structure Nm (names : List Str) : Prop where
  l1 : 1 ≤ names.length
  l3 : names.length ≤ 3
  nd : names.Nodup
  mem : ∀ x ∈ names, x ∈ univ
  asc : names.Pairwise (fun x y => rk x ≤ rk y)
theorem Nm.A {names : List Str} (h : Nm names) : Asc rk univ names := ⟨rk_lt, rk_inj, h.mem, h.asc⟩
/-- at most eight different numbers from 0 on -/
structure Dg (ns : List Int) : Prop where
  l : ns.length ≤ 8
  nd : ns.Nodup
  pos : ∀ x ∈ ns, 0 ≤ x ∧ x < 10 ^ 13
def bothD (d : PyData) (ds : List PyData) : Prop := d = .list ds ∨ d = .tuple ds
theorem bothD.lst {d : PyData} {ds : List PyData} (h : bothD d ds) : isLstD d = true := by rcases h with rfl | rfl <;> rfl
theorem bothD.len {d : PyData} {ds : List PyData} (h : bothD d ds) : lenD d = some ds.length := by rcases h with rfl | rfl <;> rfl
theorem strs_keys (xs : List Str) : strsD xs = (xs.map (Sum.inr : Str → Key)).map keyD := by unfold strsD; rw [List.map_map] <;> rfl
theorem ints_keys (xs : List Int) : intsD xs = (xs.map (Sum.inl : Int → Key)).map keyD := by unfold intsD; rw [List.map_map] <;> rfl
theorem all_map {ds : List PyData} {f : PyData → Bool} : (((ds.filter fun _ => true).map fun d => PyData.bool (f d)) = (ds.map f).map .bool) := by
  rw [List.filter_eq_self.mpr (fun _ _ => rfl), List.map_map] <;> rfl
theorem all_id {ds : List PyData} {f : PyData → Bool} : (ds.map f).all id = ds.all f := by
  rw [List.all_map] <;> rfl
theorem R1.is {K : PySem.W.Frag} {U : Wo} {r : R2} {d1 d2 d e : PyData} (h : R1 K U r d1 d2 d) (z : d = e) : R1 K U r d1 d2 e := z ▸ h
/-! ### defs that yield this, or raise that -/
inductive Out where
  | val (d : PyData)
  | err (C : Addr)
def spY (K : PySem.W.Frag) (m : Nat) (P : List PyData → Out → Prop) : Sp := fun vs H Q E => ∃ (U : Wo) (n : Nat) (ds : List PyData) (o : Out), U.ok n H ∧ DdAll K (U.view H) vs ds ∧ ds.length = m ∧ P ds o ∧
  match o with
  | .val e => ∀ v H', U.ok n H' → Same (U.view H) (U.view H') → Dd K (U.view H') v e → Q v H'
  | .err C => ∀ H', U.ok n H' → Same (U.view H) (U.view H') → E (.ref C) none H'
theorem spY_len {K : PySem.W.Frag} {m : Nat} {P : List PyData → Out → Prop} {vs : List V} {H : Hp} {Q : VK} {E : XK} (h : spY K m P vs H Q E) : vs.length = m := by
  obtain ⟨U, n, ds, e, _, hd, l, _⟩ := h
  rw [hd.len, l]
section
variable {K : PySem.W.Frag} {U : Wo} {M : Hp} {σ : L2.St} {n m i : Nat} {t : TA} {P : List PyData → Out → Prop} {ds : List PyData} {D : Ends} {H : Hp} {E : XK}
theorem s1_asgY {e : PyData} (a : At U n M H) (h : A1 K U M t σ ds) (hm : ds.length = m) (hp : P ds (.val e)) (q : ∀ v H', At U n (U.view H') H' → Same (U.view H) (U.view H') → Dd K (U.view H') v e → D.nx (σ.set i (some v)) H') : tAsg (tGoE (spY K m P) E t) (gName i) D σ H :=
  h n H a _ fun vs H1 ok1 s1 d1 => ⟨U, n, ds, .val e, ok1, d1, hm, hp, fun v H2 ok2 s2 d2 => q v H2 (At.here ok2) (s1.trans s2) d2⟩
theorem s1_asgX {C : Addr} {g : TG} (a : At U n M H) (h : A1 K U M t σ ds) (hm : ds.length = m) (hp : P ds (.err C)) (q : ∀ H', U.ok n H' → Same (U.view H) (U.view H') → E (.ref C) none H') : tAsg (tGoE (spY K m P) E t) g D σ H :=
  h n H a _ fun vs H1 ok1 s1 d1 => ⟨U, n, ds, .err C, ok1, d1, hm, hp, fun H2 ok2 s2 => q H2 ok2 (s1.trans s2)⟩
end
def goodF (f : PyData) (names : List Str) : Prop := ∃ xs, Nm names ∧ xs.Perm names ∧ bothD f (strsD xs)
def badF (f : PyData) : Prop := isLstD f = false ∨ ∃ ds, bothD f ds ∧ ds.length ≤ 100 ∧ ds.all shortD = true ∧ (¬ (1 ≤ ds.length ∧ ds.length ≤ 3) ∨ ds.all isFieldD = false ∨ ∃ xs, ds = strsD xs ∧ ¬ xs.Nodup)
def goodN (d : PyData) (xs : List Int) : Prop := Dg xs ∧ bothD d (intsD xs)
def badN (d : PyData) : Prop := isLstD d = false ∨ ∃ ds, bothD d ds ∧ ds.length ≤ 100 ∧ (8 < ds.length ∨ ds.all isCountD = false ∨ ∃ xs, ds = intsD xs ∧ ¬ xs.Nodup)
def YAsc (CF : Addr) (ds : List PyData) (o : Out) : Prop := ∃ f, ds = [f] ∧ ((∃ names, goodF f names ∧ o = .val (.tuple (strsD names))) ∨ (badF f ∧ o = .err CF))
def YAscN (CN : Addr) (ds : List PyData) (o : Out) : Prop := ∃ d, ds = [d] ∧ ((∃ xs, goodN d xs ∧ o = .val (.tuple (intsD (srtI xs)))) ∨ (badN d ∧ o = .err CN))
theorem few_kinds {ks : List Key} (h : ¬ ks.Nodup) : kinds ks ks.length < ks.length := by
  have a := kinds_le ks ks.length
  have b : kinds ks ks.length ≠ ks.length := fun e => h (by
    have := all_kinds ks.length (Nat.le_refl _) e
    rwa [List.take_length] at this)
  omega
section
variable {P : Program} {w : World} {K : PySem.W.Frag} {mg : Str → Option Value} {base : Heap} {CW CF CN : Addr}
abbrev spList (K : PySem.W.Frag) : Sp := spF K 1 (fun _ => True) (f1 fun d => .bool (isLstD d))
theorem ok_is_list {f : Addr} {fd : FuncData} (F : Fun K "is_list" "is_list" s_is_list f fd) (T : Blt mg) : FnG P w K mg base 1 f fd ["thing"] (spList K) := by
  refine fnG F sc_is_list (fun vs H Q E h => spF_len h) (fun cdv A outer s H vs Q E hr h => ?_)
  obtain ⟨U, n, ds, a, hd, hl, _, q⟩ := spF_go h
  obtain ⟨d, rfl⟩ := pick1 hl
  obtain ⟨v, rfl, hv⟩ := dd1 hd
  refine ⟨_, pss_one (ps_ret (pe_callB call_isiT (by rfl) T.isinstance (by decide +kernel) (pa_cons (pv 0) (pa_cons (pe_tup (pa_cons (pe_bltn (v := .ty "list") (by rfl) T.list (by decide +kernel) rfl) (pa_cons (pe_bltn (v := .ty "tuple") (by rfl) T.tuple (by decide +kernel) rfl) pa_nil))) pa_nil)))), ?_⟩
  exact s1_ret (d := .bool (isLstD d)) a (e1_isi2 (e1_var rfl hv) (kit_seq d)) (fun v H1 a1 s1 d1 => q v H1 a1.ok s1 d1)
theorem strs_inj : ∀ {xs ys : List Str}, strsD xs = strsD ys → xs = ys
  | [], [], _ => rfl
  | [], _ :: _, h => by cases h
  | _ :: _, [], h => by cases h
  | x :: xs, y :: ys, h => by
    have h' : PyData.str x :: strsD xs = .str y :: strsD ys := h
    obtain ⟨h1, h2⟩ := List.cons.inj h'
    rw [PyData.str.inj h1, strs_inj h2]
theorem ints_inj : ∀ {xs ys : List Int}, intsD xs = intsD ys → xs = ys
  | [], [], _ => rfl
  | [], _ :: _, h => by cases h
  | _ :: _, [], h => by cases h
  | x :: xs, y :: ys, h => by
    have h' : PyData.int x :: intsD xs = .int y :: intsD ys := h
    obtain ⟨h1, h2⟩ := List.cons.inj h'
    rw [PyData.int.inj h1, ints_inj h2]
theorem nm_fields {names xs : List Str} (hN : Nm names) (hp : xs.Perm names) : (strsD xs).all isFieldD = true := by
  rw [List.all_eq_true]
  intro e he
  obtain ⟨x, hx, rfl⟩ := List.mem_map.mp he
  exact (univ_field x (hN.mem x (hp.mem_iff.mp hx))).1
theorem fields_strs : ∀ {ds : List PyData}, ds.all isFieldD = true → ∃ xs, ds = strsD xs
  | [], _ => ⟨[], rfl⟩
  | d :: ds, h => by
    rw [List.all_cons, Bool.and_eq_true] at h
    obtain ⟨xs, rfl⟩ := fields_strs h.2
    have h1 := h.1
    cases d with
    | str x => exact ⟨x :: xs, rfl⟩
    | _ => cases h1
theorem counts_ints : ∀ {ds : List PyData}, ds.all isCountD = true → ∃ xs : List Int, ds = intsD xs ∧ ∀ x ∈ xs, 0 ≤ x
  | [], _ => ⟨[], rfl, fun _ h => nomatch h⟩
  | d :: ds, h => by
    rw [List.all_cons, Bool.and_eq_true] at h
    obtain ⟨xs, rfl, hx⟩ := counts_ints h.2
    have h1 := h.1
    cases d with
    | int x =>
      rw [isCount_int] at h1
      refine ⟨x :: xs, rfl, fun y hy => ?_⟩
      rcases List.mem_cons.mp hy with rfl | hy
      · exact of_decide_eq_true h1
      · exact hx y hy
    | bool b => simp [isCountD, isIntD, isBoolD] at h1
    | _ => cases h1
theorem asc_fieldsL {f0 : Addr} {cdv : Value} {A : Around} {outer : List Env} {s : Shared} {H : Hp} {v : V} {Q : VK} {E : XK} {U : Wo} {n : Nat} {ds : List PyData} {o : Out} (C : Err K mg CW CF CN) (T : Blt mg) (Cc : Cst K mg) (G_is_list : Def P w K mg base "is_list" 1 ["thing"] (spList K)) (G_is_field : Def P w K mg base "is_field" 1 ["thing"] (spField K))
    (hr : Rm 1 (A.deeper (envOfC "ascending_fields" (defScope s_ascending_fields) s.heap.objs.size f0 cdv))) (hv : Dd K (U.view H) v (.list ds)) (a : At U n (U.view H) H)
    (q : match o with | .val e => ∀ v H', U.ok n H' → Same (U.view H) (U.view H') → Dd K (U.view H') v e → Q v H' | .err C => ∀ H', U.ok n H' → Same (U.view H) (U.view H') → E (.ref C) none H')
    (kind : (∃ names xs, Nm names ∧ xs.Perm names ∧ ds = strsD xs ∧ o = .val (.tuple (strsD names))) ∨ ((¬ (1 ≤ ds.length ∧ ds.length ≤ 3) ∨ ds.all isFieldD = false ∨ ∃ xs, ds = strsD xs ∧ ¬ xs.Nodup) ∧ o = .err CF)) (hl : ds.length ≤ 100) (hs : ds.all shortD = true) :
    ∃ t, PSs (cxOf (L2.CX P w) P w K mg base ["fields", "field"] "ascending_fields" (defScope s_ascending_fields) f0 cdv A outer s H E) (defBody s_ascending_fields) t ∧ t { nx := fun _ H' => Q .non H', rt := Q } (start ["fields", "field"] [v]) H := by
  obtain ⟨tm, gm⟩ := Cc.most_fields
  refine ⟨_, pss_cons (ps_if (PW.pt (pw_or (pt_not (pt_val (pe_go G_is_list hr (pa_cons (pv 0) pa_nil)))) (pw_or1 (pt_not (pt_chain op_le op_le pe_int (pe_callB call_len (by rfl) T.len (by decide +kernel) (pa_cons (pv 0) pa_nil)) (pe_glob (v := .int 3) rfl gm ⟨_, rfl⟩))))))
        (pss_one (ps_raiseC C.f rfl (takes_of rfl rfl rfl rfl) rfl))
        pss_nil)
        (pss_cons (ps_if (pt_not (pt_val (pe_callB (cr_all rfl) (by rfl) T.all (by decide +kernel) (pa_cons (pe_lc (own := [("field", 1)]) (g := gName 1) (tt := tYes) rfl sc_ascending_fields.nd (pi_list (pv 0)) (blkOk_by (N := ["fields", "field"]) (sc := defScope s_ascending_fields) (by decide +kernel)) (fun _ _ _ _ _ => (pg_name (i := 1) sc_ascending_fields.nd rfl (.inl rfl))) (fun _ _ _ _ _ => pts_nil) (fun _ _ _ _ _ => (pe_go G_is_field hr (pa_cons (pv 1) pa_nil)))) pa_nil))))
        (pss_one (ps_raiseC C.f rfl (takes_of rfl rfl rfl rfl) rfl))
        pss_nil)
        (pss_cons (ps_if (pt_cmpR op_lt (pe_lenK (pv 0) T.len T.set) (pe_callB call_len (by rfl) T.len (by decide +kernel) (pa_cons (pv 0) pa_nil)) (nomark _))
        (pss_one (ps_raiseC C.f rfl (takes_of rfl rfl rfl rfl) rfl))
        pss_nil)
        (pss_one (ps_ret (pe_callTy call_tuple_of (by rfl) T.tuple (by decide +kernel) (pa_cons (pe_callB cr_srtS (by rfl) T.sorted (by decide +kernel) (pa_cons (pv 0) pa_nil)) pa_nil)))))), ?_⟩
  by_cases c1 : 1 ≤ ds.length ∧ ds.length ≤ 3
  · refine s1_if (b := false) a (T1.is (t1_or (a := false) (T1.is (t1_not (b := true) (t1_val (E1.is (e1_go (a1_cons (e1_var rfl hv) a1_nil) rfl trivial) (congrArg PyData.bool (show isLstD (.list ds) = true from rfl))))) rfl) (b := false) fun _ => T1.is (t1_not (t1_chain (a := decide ((1 : Int) ≤ ds.length)) (b := decide ((ds.length : Int) ≤ 3)) e1_int (e1_len (e1_var rfl hv) rfl (by omega)) r1_cmp (fun _ => e1_int) fun _ => r1_cmp)) (by simp; omega)) rfl) (fun z => Bool.noConfusion z) fun _ H1 a1 s1 => ?_
    refine rd_next ?_
    dsimp only
    refine rd_seq ?_
    cases c2 : ds.all isFieldD with
    | false =>
      refine s1_if (b := true) a1 (T1.is (t1_not (t1_val (e1_all (bs := ds.map isFieldD) (E1.is (e1_lc (p := fun _ => true) (f := fun d => .bool (isFieldD d)) (i1_list (e1_var rfl hv)) (by omega) (fun _ => rfl) (fun U' M' v d e hm hd => t1_yes) (fun U' M' v d e hm _ hd => ?gA)) (congrArg PyData.list all_map))))) (by rw [all_id, c2] <;> rfl)) (fun _ H2 a2 s2 => ?_) (fun z => Bool.noConfusion z)
      case gA =>
        refine e1_go (a1_cons (e1_var rfl hd) a1_nil) rfl ?_
        simpa using List.all_eq_true.mp hs d hm
      rcases kind with ⟨names, xs, hN, hp, rfl, rfl⟩ | ⟨_, rfl⟩
      · rw [nm_fields hN hp] at c2
        cases c2
      · exact q H2 a2.ok (s1.trans s2)
    | true =>
      refine s1_if (b := false) a1 (T1.is (t1_not (t1_val (e1_all (bs := ds.map isFieldD) (E1.is (e1_lc (p := fun _ => true) (f := fun d => .bool (isFieldD d)) (i1_list (e1_var rfl hv)) (by omega) (fun _ => rfl) (fun U' M' v d e hm hd => t1_yes) (fun U' M' v d e hm _ hd => ?gB)) (congrArg PyData.list all_map))))) (by rw [all_id, c2] <;> rfl)) (fun z => Bool.noConfusion z) fun _ H2 a2 s2 => ?_
      case gB =>
        refine e1_go (a1_cons (e1_var rfl hd) a1_nil) rfl ?_
        simpa using List.all_eq_true.mp hs d hm
      refine rd_next ?_
      dsimp only
      refine rd_seq ?_
      obtain ⟨xs, rfl⟩ := fields_strs c2
      have lx : (strsD xs).length = xs.length := List.length_map ..
      have ly : (xs.map (Sum.inr : Str → Key)).length = xs.length := List.length_map ..
      by_cases c3 : xs.Nodup
      · have hnd : (xs.map (Sum.inr : Str → Key)).Nodup := List.Pairwise.map _ (fun a b h e => h (Sum.inr.inj e)) c3
        refine s1_if (b := false) a2 (t1_test (e1_op (e1_lenK (ks := xs.map (Sum.inr : Str → Key)) (e1_var rfl hv) (by first | exact .inl (congrArg PyData.list (strs_keys xs)) | exact .inr (congrArg PyData.tuple (strs_keys xs))) (by omega)) (e1_len (e1_var rfl hv) rfl (by omega)) (R1.is r1_cmp (by rw [kinds_all hnd _ (Nat.le_refl _), ly, lx]; simp)))) (fun z => Bool.noConfusion z) fun _ H3 a3 s3 => ?_
        rcases kind with ⟨names, ys, hN, hp, e, rfl⟩ | ⟨bad, rfl⟩
        · obtain rfl : xs = ys := strs_inj e
          exact s1_ret a3 (e1_tuple (e1_srtS hN.A hp (e1_var rfl hv) (by first | exact .inl rfl | exact .inr rfl) (by omega)) (.inl rfl)) fun v H4 a4 s4 d4 => q v H4 a4.ok (((s1.trans s2).trans s3).trans s4) d4
        · exfalso
          rcases bad with z | z | ⟨ys, e, z⟩
          · exact z c1
          · rw [c2] at z
            cases z
          · exact z (strs_inj e ▸ c3)
      · have few := few_kinds (ks := xs.map (Sum.inr : Str → Key)) (fun z => c3 (List.Pairwise.of_map _ (fun a b h e => h (congrArg _ e)) z))
        refine s1_if (b := true) a2 (t1_test (e1_op (e1_lenK (ks := xs.map (Sum.inr : Str → Key)) (e1_var rfl hv) (by first | exact .inl (congrArg PyData.list (strs_keys xs)) | exact .inr (congrArg PyData.tuple (strs_keys xs))) (by omega)) (e1_len (e1_var rfl hv) rfl (by omega)) (R1.is r1_cmp (congrArg PyData.bool (decide_eq_true (by rw [lx, ← ly]; exact Int.ofNat_lt.mpr few)))))) (fun _ H3 a3 s3 => ?_) (fun z => Bool.noConfusion z)
        rcases kind with ⟨names, ys, hN, hp, e, rfl⟩ | ⟨_, rfl⟩
        · exact absurd (hp.nodup_iff.mpr hN.nd) (strs_inj e ▸ c3)
        · exact q H3 a3.ok ((s1.trans s2).trans s3)
  · refine s1_if (b := true) a (T1.is (t1_or (a := false) (T1.is (t1_not (b := true) (t1_val (E1.is (e1_go (a1_cons (e1_var rfl hv) a1_nil) rfl trivial) (congrArg PyData.bool (show isLstD (.list ds) = true from rfl))))) rfl) (b := true) fun _ => T1.is (t1_not (t1_chain (a := decide ((1 : Int) ≤ ds.length)) (b := decide ((ds.length : Int) ≤ 3)) e1_int (e1_len (e1_var rfl hv) rfl (by omega)) r1_cmp (fun _ => e1_int) fun _ => r1_cmp)) (by simp; omega)) rfl) (fun _ H1 a1 s1 => ?_) (fun z => Bool.noConfusion z)
    rcases kind with ⟨names, xs, hN, hp, rfl, rfl⟩ | ⟨_, rfl⟩
    · exfalso
      have := hN.l1
      have := hN.l3
      have := hp.length_eq
      have : (strsD xs).length = xs.length := List.length_map ..
      omega
    · exact q H1 a1.ok s1
theorem asc_fieldsT {f0 : Addr} {cdv : Value} {A : Around} {outer : List Env} {s : Shared} {H : Hp} {v : V} {Q : VK} {E : XK} {U : Wo} {n : Nat} {ds : List PyData} {o : Out} (C : Err K mg CW CF CN) (T : Blt mg) (Cc : Cst K mg) (G_is_list : Def P w K mg base "is_list" 1 ["thing"] (spList K)) (G_is_field : Def P w K mg base "is_field" 1 ["thing"] (spField K))
    (hr : Rm 1 (A.deeper (envOfC "ascending_fields" (defScope s_ascending_fields) s.heap.objs.size f0 cdv))) (hv : Dd K (U.view H) v (.tuple ds)) (a : At U n (U.view H) H)
    (q : match o with | .val e => ∀ v H', U.ok n H' → Same (U.view H) (U.view H') → Dd K (U.view H') v e → Q v H' | .err C => ∀ H', U.ok n H' → Same (U.view H) (U.view H') → E (.ref C) none H')
    (kind : (∃ names xs, Nm names ∧ xs.Perm names ∧ ds = strsD xs ∧ o = .val (.tuple (strsD names))) ∨ ((¬ (1 ≤ ds.length ∧ ds.length ≤ 3) ∨ ds.all isFieldD = false ∨ ∃ xs, ds = strsD xs ∧ ¬ xs.Nodup) ∧ o = .err CF)) (hl : ds.length ≤ 100) (hs : ds.all shortD = true) :
    ∃ t, PSs (cxOf (L2.CX P w) P w K mg base ["fields", "field"] "ascending_fields" (defScope s_ascending_fields) f0 cdv A outer s H E) (defBody s_ascending_fields) t ∧ t { nx := fun _ H' => Q .non H', rt := Q } (start ["fields", "field"] [v]) H := by
  obtain ⟨tm, gm⟩ := Cc.most_fields
  refine ⟨_, pss_cons (ps_if (PW.pt (pw_or (pt_not (pt_val (pe_go G_is_list hr (pa_cons (pv 0) pa_nil)))) (pw_or1 (pt_not (pt_chain op_le op_le pe_int (pe_callB call_len (by rfl) T.len (by decide +kernel) (pa_cons (pv 0) pa_nil)) (pe_glob (v := .int 3) rfl gm ⟨_, rfl⟩))))))
        (pss_one (ps_raiseC C.f rfl (takes_of rfl rfl rfl rfl) rfl))
        pss_nil)
        (pss_cons (ps_if (pt_not (pt_val (pe_callB (cr_all rfl) (by rfl) T.all (by decide +kernel) (pa_cons (pe_lc (own := [("field", 1)]) (g := gName 1) (tt := tYes) rfl sc_ascending_fields.nd (pi_tup (pv 0)) (blkOk_by (N := ["fields", "field"]) (sc := defScope s_ascending_fields) (by decide +kernel)) (fun _ _ _ _ _ => (pg_name (i := 1) sc_ascending_fields.nd rfl (.inl rfl))) (fun _ _ _ _ _ => pts_nil) (fun _ _ _ _ _ => (pe_go G_is_field hr (pa_cons (pv 1) pa_nil)))) pa_nil))))
        (pss_one (ps_raiseC C.f rfl (takes_of rfl rfl rfl rfl) rfl))
        pss_nil)
        (pss_cons (ps_if (pt_cmpR op_lt (pe_lenK (pv 0) T.len T.set) (pe_callB call_len (by rfl) T.len (by decide +kernel) (pa_cons (pv 0) pa_nil)) (nomark _))
        (pss_one (ps_raiseC C.f rfl (takes_of rfl rfl rfl rfl) rfl))
        pss_nil)
        (pss_one (ps_ret (pe_callTy call_tuple_of (by rfl) T.tuple (by decide +kernel) (pa_cons (pe_callB cr_srtS (by rfl) T.sorted (by decide +kernel) (pa_cons (pv 0) pa_nil)) pa_nil)))))), ?_⟩
  by_cases c1 : 1 ≤ ds.length ∧ ds.length ≤ 3
  · refine s1_if (b := false) a (T1.is (t1_or (a := false) (T1.is (t1_not (b := true) (t1_val (E1.is (e1_go (a1_cons (e1_var rfl hv) a1_nil) rfl trivial) (congrArg PyData.bool (show isLstD (.tuple ds) = true from rfl))))) rfl) (b := false) fun _ => T1.is (t1_not (t1_chain (a := decide ((1 : Int) ≤ ds.length)) (b := decide ((ds.length : Int) ≤ 3)) e1_int (e1_len (e1_var rfl hv) rfl (by omega)) r1_cmp (fun _ => e1_int) fun _ => r1_cmp)) (by simp; omega)) rfl) (fun z => Bool.noConfusion z) fun _ H1 a1 s1 => ?_
    refine rd_next ?_
    dsimp only
    refine rd_seq ?_
    cases c2 : ds.all isFieldD with
    | false =>
      refine s1_if (b := true) a1 (T1.is (t1_not (t1_val (e1_all (bs := ds.map isFieldD) (E1.is (e1_lc (p := fun _ => true) (f := fun d => .bool (isFieldD d)) (i1_tup (e1_var rfl hv)) (by omega) (fun _ => rfl) (fun U' M' v d e hm hd => t1_yes) (fun U' M' v d e hm _ hd => ?gA)) (congrArg PyData.list all_map))))) (by rw [all_id, c2] <;> rfl)) (fun _ H2 a2 s2 => ?_) (fun z => Bool.noConfusion z)
      case gA =>
        refine e1_go (a1_cons (e1_var rfl hd) a1_nil) rfl ?_
        simpa using List.all_eq_true.mp hs d hm
      rcases kind with ⟨names, xs, hN, hp, rfl, rfl⟩ | ⟨_, rfl⟩
      · rw [nm_fields hN hp] at c2
        cases c2
      · exact q H2 a2.ok (s1.trans s2)
    | true =>
      refine s1_if (b := false) a1 (T1.is (t1_not (t1_val (e1_all (bs := ds.map isFieldD) (E1.is (e1_lc (p := fun _ => true) (f := fun d => .bool (isFieldD d)) (i1_tup (e1_var rfl hv)) (by omega) (fun _ => rfl) (fun U' M' v d e hm hd => t1_yes) (fun U' M' v d e hm _ hd => ?gB)) (congrArg PyData.list all_map))))) (by rw [all_id, c2] <;> rfl)) (fun z => Bool.noConfusion z) fun _ H2 a2 s2 => ?_
      case gB =>
        refine e1_go (a1_cons (e1_var rfl hd) a1_nil) rfl ?_
        simpa using List.all_eq_true.mp hs d hm
      refine rd_next ?_
      dsimp only
      refine rd_seq ?_
      obtain ⟨xs, rfl⟩ := fields_strs c2
      have lx : (strsD xs).length = xs.length := List.length_map ..
      have ly : (xs.map (Sum.inr : Str → Key)).length = xs.length := List.length_map ..
      by_cases c3 : xs.Nodup
      · have hnd : (xs.map (Sum.inr : Str → Key)).Nodup := List.Pairwise.map _ (fun a b h e => h (Sum.inr.inj e)) c3
        refine s1_if (b := false) a2 (t1_test (e1_op (e1_lenK (ks := xs.map (Sum.inr : Str → Key)) (e1_var rfl hv) (by first | exact .inl (congrArg PyData.list (strs_keys xs)) | exact .inr (congrArg PyData.tuple (strs_keys xs))) (by omega)) (e1_len (e1_var rfl hv) rfl (by omega)) (R1.is r1_cmp (by rw [kinds_all hnd _ (Nat.le_refl _), ly, lx]; simp)))) (fun z => Bool.noConfusion z) fun _ H3 a3 s3 => ?_
        rcases kind with ⟨names, ys, hN, hp, e, rfl⟩ | ⟨bad, rfl⟩
        · obtain rfl : xs = ys := strs_inj e
          exact s1_ret a3 (e1_tuple (e1_srtS hN.A hp (e1_var rfl hv) (by first | exact .inl rfl | exact .inr rfl) (by omega)) (.inl rfl)) fun v H4 a4 s4 d4 => q v H4 a4.ok (((s1.trans s2).trans s3).trans s4) d4
        · exfalso
          rcases bad with z | z | ⟨ys, e, z⟩
          · exact z c1
          · rw [c2] at z
            cases z
          · exact z (strs_inj e ▸ c3)
      · have few := few_kinds (ks := xs.map (Sum.inr : Str → Key)) (fun z => c3 (List.Pairwise.of_map _ (fun a b h e => h (congrArg _ e)) z))
        refine s1_if (b := true) a2 (t1_test (e1_op (e1_lenK (ks := xs.map (Sum.inr : Str → Key)) (e1_var rfl hv) (by first | exact .inl (congrArg PyData.list (strs_keys xs)) | exact .inr (congrArg PyData.tuple (strs_keys xs))) (by omega)) (e1_len (e1_var rfl hv) rfl (by omega)) (R1.is r1_cmp (congrArg PyData.bool (decide_eq_true (by rw [lx, ← ly]; exact Int.ofNat_lt.mpr few)))))) (fun _ H3 a3 s3 => ?_) (fun z => Bool.noConfusion z)
        rcases kind with ⟨names, ys, hN, hp, e, rfl⟩ | ⟨_, rfl⟩
        · exact absurd (hp.nodup_iff.mpr hN.nd) (strs_inj e ▸ c3)
        · exact q H3 a3.ok ((s1.trans s2).trans s3)
  · refine s1_if (b := true) a (T1.is (t1_or (a := false) (T1.is (t1_not (b := true) (t1_val (E1.is (e1_go (a1_cons (e1_var rfl hv) a1_nil) rfl trivial) (congrArg PyData.bool (show isLstD (.tuple ds) = true from rfl))))) rfl) (b := true) fun _ => T1.is (t1_not (t1_chain (a := decide ((1 : Int) ≤ ds.length)) (b := decide ((ds.length : Int) ≤ 3)) e1_int (e1_len (e1_var rfl hv) rfl (by omega)) r1_cmp (fun _ => e1_int) fun _ => r1_cmp)) (by simp; omega)) rfl) (fun _ H1 a1 s1 => ?_) (fun z => Bool.noConfusion z)
    rcases kind with ⟨names, xs, hN, hp, rfl, rfl⟩ | ⟨_, rfl⟩
    · exfalso
      have := hN.l1
      have := hN.l3
      have := hp.length_eq
      have : (strsD xs).length = xs.length := List.length_map ..
      omega
    · exact q H1 a1.ok s1
theorem asc_fields {f0 : Addr} {fd : FuncData} (F : Fun K "ascending_fields" "ascending_fields" s_ascending_fields f0 fd) (T : Blt mg) (C : Err K mg CW CF CN) (Cc : Cst K mg) (G_is_list : Def P w K mg base "is_list" 1 ["thing"] (spList K)) (G_is_field : Def P w K mg base "is_field" 1 ["thing"] (spField K)) :
    FnR P w K mg base (L2.CX P w) anyR 2 f0 fd ["fields"] (spY K 1 (YAsc CF)) := by
  refine fnR F sc_ascending_fields (fun vs H Q E h => spY_len h) (fun cdv A outer s H vs Q E hr _ h => ?_)
  obtain ⟨U, n, es, o, ok, hd, hl, ⟨f, rfl, kind⟩, q⟩ := h
  obtain ⟨v, rfl, hv⟩ := dd1 hd
  obtain ⟨tm, gm⟩ := Cc.most_fields
  have a : At U n (U.view H) H := At.here ok
  cases hlst : isLstD f with
  | false =>
    refine ⟨_, pss_cons (ps_if (PW.pt (pw_or (pt_not (pt_val (pe_go G_is_list hr (pa_cons (pv 0) pa_nil)))) (pw_or1 (pt_not (pt_chain op_le op_le pe_int (pe_callB call_len (by rfl) T.len (by decide +kernel) (pa_cons (pv 0) pa_nil)) (pe_glob (v := .int 3) rfl gm ⟨_, rfl⟩))))))
        (pss_one (ps_raiseC C.f rfl (takes_of rfl rfl rfl rfl) rfl))
        pss_nil)
        (pss_cons (ps_if (pt_not (pt_val (pe_callB (cr_all rfl) (by rfl) T.all (by decide +kernel) (pa_cons (pe_lc (own := [("field", 1)]) (g := gName 1) (tt := tYes) rfl sc_ascending_fields.nd (pi_list (pv 0)) (blkOk_by (N := ["fields", "field"]) (sc := defScope s_ascending_fields) (by decide +kernel)) (fun _ _ _ _ _ => (pg_name (i := 1) sc_ascending_fields.nd rfl (.inl rfl))) (fun _ _ _ _ _ => pts_nil) (fun _ _ _ _ _ => (pe_go G_is_field hr (pa_cons (pv 1) pa_nil)))) pa_nil))))
        (pss_one (ps_raiseC C.f rfl (takes_of rfl rfl rfl rfl) rfl))
        pss_nil)
        (pss_cons (ps_if (pt_cmpR op_lt (pe_lenK (pv 0) T.len T.set) (pe_callB call_len (by rfl) T.len (by decide +kernel) (pa_cons (pv 0) pa_nil)) (nomark _))
        (pss_one (ps_raiseC C.f rfl (takes_of rfl rfl rfl rfl) rfl))
        pss_nil)
        (pss_one (ps_ret (pe_callTy call_tuple_of (by rfl) T.tuple (by decide +kernel) (pa_cons (pe_callB cr_srtS (by rfl) T.sorted (by decide +kernel) (pa_cons (pv 0) pa_nil)) pa_nil)))))), ?_⟩
    refine s1_if (b := true) a (T1.is (t1_or (a := true) (T1.is (t1_not (t1_val (E1.is (e1_go (a1_cons (e1_var rfl hv) a1_nil) rfl trivial) (congrArg PyData.bool hlst)))) rfl) (b := false) fun z => Bool.noConfusion z) rfl) (fun _ H1 a1 s1 => ?_) (fun z => Bool.noConfusion z)
    rcases kind with ⟨names, ⟨xs, hN, hp, hb⟩, rfl⟩ | ⟨_, rfl⟩
    · rw [hb.lst] at hlst
      cases hlst
    · exact q H1 a1.ok s1
  | true =>
    have body : ∀ ds, bothD f ds → ((∃ names xs, Nm names ∧ xs.Perm names ∧ ds = strsD xs ∧ o = .val (.tuple (strsD names))) ∨ ((¬ (1 ≤ ds.length ∧ ds.length ≤ 3) ∨ ds.all isFieldD = false ∨ ∃ xs, ds = strsD xs ∧ ¬ xs.Nodup) ∧ o = .err CF)) → ds.length ≤ 100 → ds.all shortD = true →
        ∃ t, PSs (cxOf (L2.CX P w) P w K mg base ["fields", "field"] "ascending_fields" (defScope s_ascending_fields) f0 cdv A outer s H E) (defBody s_ascending_fields) t ∧ t { nx := fun _ H' => Q .non H', rt := Q } (start ["fields", "field"] [v]) H := by
      intro ds hb kd hlen hs
      rcases hb with rfl | rfl
      · exact asc_fieldsL (C := C) (T := T) (Cc := Cc) G_is_list G_is_field hr hv a q kd hlen hs
      · exact asc_fieldsT (C := C) (T := T) (Cc := Cc) G_is_list G_is_field hr hv a q kd hlen hs
    rcases kind with ⟨names, ⟨xs, hN, hp, hb⟩, e⟩ | ⟨bad, e⟩
    · refine body _ hb (.inl ⟨names, xs, hN, hp, rfl, e⟩) ?_ ?_
      · have := hN.l3
        have := hp.length_eq
        rw [strsD, List.length_map]
        omega
      · rw [List.all_eq_true]
        intro d hd
        obtain ⟨x, hx, rfl⟩ := List.mem_map.mp hd
        simp [shortD, (univ_field x (hN.mem x (hp.mem_iff.mp hx))).2.1]
    · rcases bad with z | ⟨ds, hb, hl, hs, r⟩
      · rw [z] at hlst
        cases hlst
      · exact body ds hb (.inr ⟨r, e⟩) hl hs
end
end Mw
namespace Mw
open PySem PySem.Spec PyProof.Rows L2
section
variable {P : Program} {w : World} {K : PySem.W.Frag} {mg : Str → Option Value} {base : Heap} {CW CF CN : Addr}
theorem asc_numbersL {f0 : Addr} {cdv : Value} {A : Around} {outer : List Env} {s : Shared} {H : Hp} {v : V} {Q : VK} {E : XK} {U : Wo} {n : Nat} {ds : List PyData} {o : Out} (C : Err K mg CW CF CN) (T : Blt mg) (Cc : Cst K mg) (G_is_list : Def P w K mg base "is_list" 1 ["thing"] (spList K)) (G_is_count : Def P w K mg base "is_count" 1 ["thing"] (spCount K))
    (hr : Rm 1 (A.deeper (envOfC "ascending_numbers" (defScope s_ascending_numbers) s.heap.objs.size f0 cdv))) (hv : Dd K (U.view H) v (.list ds)) (a : At U n (U.view H) H)
    (q : match o with | .val e => ∀ v H', U.ok n H' → Same (U.view H) (U.view H') → Dd K (U.view H') v e → Q v H' | .err C => ∀ H', U.ok n H' → Same (U.view H) (U.view H') → E (.ref C) none H')
    (kind : (∃ xs, Dg xs ∧ ds = intsD xs ∧ o = .val (.tuple (intsD (srtI xs)))) ∨ ((8 < ds.length ∨ ds.all isCountD = false ∨ ∃ xs, ds = intsD xs ∧ ¬ xs.Nodup) ∧ o = .err CN)) (hl : ds.length ≤ 100) :
    ∃ t, PSs (cxOf (L2.CX P w) P w K mg base ["numbers", "number"] "ascending_numbers" (defScope s_ascending_numbers) f0 cdv A outer s H E) (defBody s_ascending_numbers) t ∧ t { nx := fun _ H' => Q .non H', rt := Q } (start ["numbers", "number"] [v]) H := by
  obtain ⟨tm, gm⟩ := Cc.most_numbers
  refine ⟨_, pss_cons (ps_if (PW.pt (pw_or (pt_not (pt_val (pe_go G_is_list hr (pa_cons (pv 0) pa_nil)))) (pw_or1 (pt_cmpR op_gt (pe_callB call_len (by rfl) T.len (by decide +kernel) (pa_cons (pv 0) pa_nil)) (pe_glob (v := .int 8) rfl gm ⟨_, rfl⟩) (nomark _)))))
        (pss_one (ps_raiseC C.n rfl (takes_of rfl rfl rfl rfl) rfl))
        pss_nil)
        (pss_cons (ps_if (pt_not (pt_val (pe_callB (cr_all rfl) (by rfl) T.all (by decide +kernel) (pa_cons (pe_lc (own := [("number", 1)]) (g := gName 1) (tt := tYes) rfl sc_ascending_numbers.nd (pi_list (pv 0)) (blkOk_by (N := ["numbers", "number"]) (sc := defScope s_ascending_numbers) (by decide +kernel)) (fun _ _ _ _ _ => (pg_name (i := 1) sc_ascending_numbers.nd rfl (.inl rfl))) (fun _ _ _ _ _ => pts_nil) (fun _ _ _ _ _ => (pe_go G_is_count hr (pa_cons (pv 1) pa_nil)))) pa_nil))))
        (pss_one (ps_raiseC C.n rfl (takes_of rfl rfl rfl rfl) rfl))
        pss_nil)
        (pss_cons (ps_if (pt_cmpR op_lt (pe_lenK (pv 0) T.len T.set) (pe_callB call_len (by rfl) T.len (by decide +kernel) (pa_cons (pv 0) pa_nil)) (nomark _))
        (pss_one (ps_raiseC C.n rfl (takes_of rfl rfl rfl rfl) rfl))
        pss_nil)
        (pss_one (ps_ret (pe_callTy call_tuple_of (by rfl) T.tuple (by decide +kernel) (pa_cons (pe_callB cr_srtI (by rfl) T.sorted (by decide +kernel) (pa_cons (pv 0) pa_nil)) pa_nil)))))), ?_⟩
  by_cases c1 : 8 < ds.length
  · refine s1_if (b := true) a (T1.is (t1_or (a := false) (T1.is (t1_not (b := true) (t1_val (E1.is (e1_go (a1_cons (e1_var rfl hv) a1_nil) rfl trivial) (congrArg PyData.bool (show isLstD (.list ds) = true from rfl))))) rfl) (b := true) fun _ => t1_test (E1.is (e1_op (e1_len (e1_var rfl hv) rfl (by omega)) e1_int r1_cmp) (congrArg PyData.bool (decide_eq_true (by omega))))) rfl) (fun _ H1 a1 s1 => ?_) (fun z => Bool.noConfusion z)
    rcases kind with ⟨xs, hN, rfl, rfl⟩ | ⟨_, rfl⟩
    · exfalso
      have := hN.l
      have : (intsD xs).length = xs.length := List.length_map ..
      omega
    · exact q H1 a1.ok s1
  · refine s1_if (b := false) a (T1.is (t1_or (a := false) (T1.is (t1_not (b := true) (t1_val (E1.is (e1_go (a1_cons (e1_var rfl hv) a1_nil) rfl trivial) (congrArg PyData.bool (show isLstD (.list ds) = true from rfl))))) rfl) (b := false) fun _ => t1_test (E1.is (e1_op (e1_len (e1_var rfl hv) rfl (by omega)) e1_int r1_cmp) (congrArg PyData.bool (decide_eq_false (by omega))))) rfl) (fun z => Bool.noConfusion z) fun _ H1 a1 s1 => ?_
    refine rd_next ?_
    dsimp only
    refine rd_seq ?_
    cases c2 : ds.all isCountD with
    | false =>
      refine s1_if (b := true) a1 (T1.is (t1_not (t1_val (e1_all (bs := ds.map isCountD) (E1.is (e1_lc (p := fun _ => true) (f := fun d => .bool (isCountD d)) (i1_list (e1_var rfl hv)) (by omega) (fun _ => rfl) (fun U' M' v d e hm hd => t1_yes) (fun U' M' v d e hm _ hd => e1_go (a1_cons (e1_var rfl hd) a1_nil) rfl trivial)) (congrArg PyData.list all_map))))) (by rw [all_id, c2] <;> rfl)) (fun _ H2 a2 s2 => ?_) (fun z => Bool.noConfusion z)
      rcases kind with ⟨xs, hN, rfl, rfl⟩ | ⟨_, rfl⟩
      · exfalso
        have z : (intsD xs).all isCountD = true := by
          rw [List.all_eq_true]
          intro e he
          obtain ⟨x, hx, rfl⟩ := List.mem_map.mp he
          rw [isCount_int]
          exact decide_eq_true (hN.pos x hx).1
        rw [c2] at z
        cases z
      · exact q H2 a2.ok (s1.trans s2)
    | true =>
      refine s1_if (b := false) a1 (T1.is (t1_not (t1_val (e1_all (bs := ds.map isCountD) (E1.is (e1_lc (p := fun _ => true) (f := fun d => .bool (isCountD d)) (i1_list (e1_var rfl hv)) (by omega) (fun _ => rfl) (fun U' M' v d e hm hd => t1_yes) (fun U' M' v d e hm _ hd => e1_go (a1_cons (e1_var rfl hd) a1_nil) rfl trivial)) (congrArg PyData.list all_map))))) (by rw [all_id, c2] <;> rfl)) (fun z => Bool.noConfusion z) fun _ H2 a2 s2 => ?_
      refine rd_next ?_
      dsimp only
      refine rd_seq ?_
      obtain ⟨xs, rfl, hx⟩ := counts_ints c2
      have lx : (intsD xs).length = xs.length := List.length_map ..
      have ly : (xs.map (Sum.inl : Int → Key)).length = xs.length := List.length_map ..
      by_cases c3 : xs.Nodup
      · have hnd : (xs.map (Sum.inl : Int → Key)).Nodup := List.Pairwise.map _ (fun a b h e => h (Sum.inl.inj e)) c3
        refine s1_if (b := false) a2 (t1_test (e1_op (e1_lenK (ks := xs.map (Sum.inl : Int → Key)) (e1_var rfl hv) (by first | exact .inl (congrArg PyData.list (ints_keys xs)) | exact .inr (congrArg PyData.tuple (ints_keys xs))) (by omega)) (e1_len (e1_var rfl hv) rfl (by omega)) (R1.is r1_cmp (by rw [kinds_all hnd _ (Nat.le_refl _), ly, lx]; simp)))) (fun z => Bool.noConfusion z) fun _ H3 a3 s3 => ?_
        rcases kind with ⟨ys, hN, e, rfl⟩ | ⟨bad, rfl⟩
        · obtain rfl : xs = ys := ints_inj e
          exact s1_ret a3 (e1_tuple (e1_srtI (e1_var rfl hv) (by first | exact .inl rfl | exact .inr rfl) (by omega)) (.inl rfl)) fun v H4 a4 s4 d4 => q v H4 a4.ok (((s1.trans s2).trans s3).trans s4) d4
        · exfalso
          rcases bad with z | z | ⟨ys, e, z⟩
          · exact c1 z
          · rw [c2] at z
            cases z
          · exact z (ints_inj e ▸ c3)
      · have few := few_kinds (ks := xs.map (Sum.inl : Int → Key)) (fun z => c3 (List.Pairwise.of_map _ (fun a b h e => h (congrArg _ e)) z))
        refine s1_if (b := true) a2 (t1_test (e1_op (e1_lenK (ks := xs.map (Sum.inl : Int → Key)) (e1_var rfl hv) (by first | exact .inl (congrArg PyData.list (ints_keys xs)) | exact .inr (congrArg PyData.tuple (ints_keys xs))) (by omega)) (e1_len (e1_var rfl hv) rfl (by omega)) (R1.is r1_cmp (congrArg PyData.bool (decide_eq_true (by rw [lx, ← ly]; exact Int.ofNat_lt.mpr few)))))) (fun _ H3 a3 s3 => ?_) (fun z => Bool.noConfusion z)
        rcases kind with ⟨ys, hN, e, rfl⟩ | ⟨_, rfl⟩
        · exact absurd hN.nd (ints_inj e ▸ c3)
        · exact q H3 a3.ok ((s1.trans s2).trans s3)
theorem asc_numbersT {f0 : Addr} {cdv : Value} {A : Around} {outer : List Env} {s : Shared} {H : Hp} {v : V} {Q : VK} {E : XK} {U : Wo} {n : Nat} {ds : List PyData} {o : Out} (C : Err K mg CW CF CN) (T : Blt mg) (Cc : Cst K mg) (G_is_list : Def P w K mg base "is_list" 1 ["thing"] (spList K)) (G_is_count : Def P w K mg base "is_count" 1 ["thing"] (spCount K))
    (hr : Rm 1 (A.deeper (envOfC "ascending_numbers" (defScope s_ascending_numbers) s.heap.objs.size f0 cdv))) (hv : Dd K (U.view H) v (.tuple ds)) (a : At U n (U.view H) H)
    (q : match o with | .val e => ∀ v H', U.ok n H' → Same (U.view H) (U.view H') → Dd K (U.view H') v e → Q v H' | .err C => ∀ H', U.ok n H' → Same (U.view H) (U.view H') → E (.ref C) none H')
    (kind : (∃ xs, Dg xs ∧ ds = intsD xs ∧ o = .val (.tuple (intsD (srtI xs)))) ∨ ((8 < ds.length ∨ ds.all isCountD = false ∨ ∃ xs, ds = intsD xs ∧ ¬ xs.Nodup) ∧ o = .err CN)) (hl : ds.length ≤ 100) :
    ∃ t, PSs (cxOf (L2.CX P w) P w K mg base ["numbers", "number"] "ascending_numbers" (defScope s_ascending_numbers) f0 cdv A outer s H E) (defBody s_ascending_numbers) t ∧ t { nx := fun _ H' => Q .non H', rt := Q } (start ["numbers", "number"] [v]) H := by
  obtain ⟨tm, gm⟩ := Cc.most_numbers
  refine ⟨_, pss_cons (ps_if (PW.pt (pw_or (pt_not (pt_val (pe_go G_is_list hr (pa_cons (pv 0) pa_nil)))) (pw_or1 (pt_cmpR op_gt (pe_callB call_len (by rfl) T.len (by decide +kernel) (pa_cons (pv 0) pa_nil)) (pe_glob (v := .int 8) rfl gm ⟨_, rfl⟩) (nomark _)))))
        (pss_one (ps_raiseC C.n rfl (takes_of rfl rfl rfl rfl) rfl))
        pss_nil)
        (pss_cons (ps_if (pt_not (pt_val (pe_callB (cr_all rfl) (by rfl) T.all (by decide +kernel) (pa_cons (pe_lc (own := [("number", 1)]) (g := gName 1) (tt := tYes) rfl sc_ascending_numbers.nd (pi_tup (pv 0)) (blkOk_by (N := ["numbers", "number"]) (sc := defScope s_ascending_numbers) (by decide +kernel)) (fun _ _ _ _ _ => (pg_name (i := 1) sc_ascending_numbers.nd rfl (.inl rfl))) (fun _ _ _ _ _ => pts_nil) (fun _ _ _ _ _ => (pe_go G_is_count hr (pa_cons (pv 1) pa_nil)))) pa_nil))))
        (pss_one (ps_raiseC C.n rfl (takes_of rfl rfl rfl rfl) rfl))
        pss_nil)
        (pss_cons (ps_if (pt_cmpR op_lt (pe_lenK (pv 0) T.len T.set) (pe_callB call_len (by rfl) T.len (by decide +kernel) (pa_cons (pv 0) pa_nil)) (nomark _))
        (pss_one (ps_raiseC C.n rfl (takes_of rfl rfl rfl rfl) rfl))
        pss_nil)
        (pss_one (ps_ret (pe_callTy call_tuple_of (by rfl) T.tuple (by decide +kernel) (pa_cons (pe_callB cr_srtI (by rfl) T.sorted (by decide +kernel) (pa_cons (pv 0) pa_nil)) pa_nil)))))), ?_⟩
  by_cases c1 : 8 < ds.length
  · refine s1_if (b := true) a (T1.is (t1_or (a := false) (T1.is (t1_not (b := true) (t1_val (E1.is (e1_go (a1_cons (e1_var rfl hv) a1_nil) rfl trivial) (congrArg PyData.bool (show isLstD (.tuple ds) = true from rfl))))) rfl) (b := true) fun _ => t1_test (E1.is (e1_op (e1_len (e1_var rfl hv) rfl (by omega)) e1_int r1_cmp) (congrArg PyData.bool (decide_eq_true (by omega))))) rfl) (fun _ H1 a1 s1 => ?_) (fun z => Bool.noConfusion z)
    rcases kind with ⟨xs, hN, rfl, rfl⟩ | ⟨_, rfl⟩
    · exfalso
      have := hN.l
      have : (intsD xs).length = xs.length := List.length_map ..
      omega
    · exact q H1 a1.ok s1
  · refine s1_if (b := false) a (T1.is (t1_or (a := false) (T1.is (t1_not (b := true) (t1_val (E1.is (e1_go (a1_cons (e1_var rfl hv) a1_nil) rfl trivial) (congrArg PyData.bool (show isLstD (.tuple ds) = true from rfl))))) rfl) (b := false) fun _ => t1_test (E1.is (e1_op (e1_len (e1_var rfl hv) rfl (by omega)) e1_int r1_cmp) (congrArg PyData.bool (decide_eq_false (by omega))))) rfl) (fun z => Bool.noConfusion z) fun _ H1 a1 s1 => ?_
    refine rd_next ?_
    dsimp only
    refine rd_seq ?_
    cases c2 : ds.all isCountD with
    | false =>
      refine s1_if (b := true) a1 (T1.is (t1_not (t1_val (e1_all (bs := ds.map isCountD) (E1.is (e1_lc (p := fun _ => true) (f := fun d => .bool (isCountD d)) (i1_tup (e1_var rfl hv)) (by omega) (fun _ => rfl) (fun U' M' v d e hm hd => t1_yes) (fun U' M' v d e hm _ hd => e1_go (a1_cons (e1_var rfl hd) a1_nil) rfl trivial)) (congrArg PyData.list all_map))))) (by rw [all_id, c2] <;> rfl)) (fun _ H2 a2 s2 => ?_) (fun z => Bool.noConfusion z)
      rcases kind with ⟨xs, hN, rfl, rfl⟩ | ⟨_, rfl⟩
      · exfalso
        have z : (intsD xs).all isCountD = true := by
          rw [List.all_eq_true]
          intro e he
          obtain ⟨x, hx, rfl⟩ := List.mem_map.mp he
          rw [isCount_int]
          exact decide_eq_true (hN.pos x hx).1
        rw [c2] at z
        cases z
      · exact q H2 a2.ok (s1.trans s2)
    | true =>
      refine s1_if (b := false) a1 (T1.is (t1_not (t1_val (e1_all (bs := ds.map isCountD) (E1.is (e1_lc (p := fun _ => true) (f := fun d => .bool (isCountD d)) (i1_tup (e1_var rfl hv)) (by omega) (fun _ => rfl) (fun U' M' v d e hm hd => t1_yes) (fun U' M' v d e hm _ hd => e1_go (a1_cons (e1_var rfl hd) a1_nil) rfl trivial)) (congrArg PyData.list all_map))))) (by rw [all_id, c2] <;> rfl)) (fun z => Bool.noConfusion z) fun _ H2 a2 s2 => ?_
      refine rd_next ?_
      dsimp only
      refine rd_seq ?_
      obtain ⟨xs, rfl, hx⟩ := counts_ints c2
      have lx : (intsD xs).length = xs.length := List.length_map ..
      have ly : (xs.map (Sum.inl : Int → Key)).length = xs.length := List.length_map ..
      by_cases c3 : xs.Nodup
      · have hnd : (xs.map (Sum.inl : Int → Key)).Nodup := List.Pairwise.map _ (fun a b h e => h (Sum.inl.inj e)) c3
        refine s1_if (b := false) a2 (t1_test (e1_op (e1_lenK (ks := xs.map (Sum.inl : Int → Key)) (e1_var rfl hv) (by first | exact .inl (congrArg PyData.list (ints_keys xs)) | exact .inr (congrArg PyData.tuple (ints_keys xs))) (by omega)) (e1_len (e1_var rfl hv) rfl (by omega)) (R1.is r1_cmp (by rw [kinds_all hnd _ (Nat.le_refl _), ly, lx]; simp)))) (fun z => Bool.noConfusion z) fun _ H3 a3 s3 => ?_
        rcases kind with ⟨ys, hN, e, rfl⟩ | ⟨bad, rfl⟩
        · obtain rfl : xs = ys := ints_inj e
          exact s1_ret a3 (e1_tuple (e1_srtI (e1_var rfl hv) (by first | exact .inl rfl | exact .inr rfl) (by omega)) (.inl rfl)) fun v H4 a4 s4 d4 => q v H4 a4.ok (((s1.trans s2).trans s3).trans s4) d4
        · exfalso
          rcases bad with z | z | ⟨ys, e, z⟩
          · exact c1 z
          · rw [c2] at z
            cases z
          · exact z (ints_inj e ▸ c3)
      · have few := few_kinds (ks := xs.map (Sum.inl : Int → Key)) (fun z => c3 (List.Pairwise.of_map _ (fun a b h e => h (congrArg _ e)) z))
        refine s1_if (b := true) a2 (t1_test (e1_op (e1_lenK (ks := xs.map (Sum.inl : Int → Key)) (e1_var rfl hv) (by first | exact .inl (congrArg PyData.list (ints_keys xs)) | exact .inr (congrArg PyData.tuple (ints_keys xs))) (by omega)) (e1_len (e1_var rfl hv) rfl (by omega)) (R1.is r1_cmp (congrArg PyData.bool (decide_eq_true (by rw [lx, ← ly]; exact Int.ofNat_lt.mpr few)))))) (fun _ H3 a3 s3 => ?_) (fun z => Bool.noConfusion z)
        rcases kind with ⟨ys, hN, e, rfl⟩ | ⟨_, rfl⟩
        · exact absurd hN.nd (ints_inj e ▸ c3)
        · exact q H3 a3.ok ((s1.trans s2).trans s3)
theorem asc_numbers {f0 : Addr} {fd : FuncData} (F : Fun K "ascending_numbers" "ascending_numbers" s_ascending_numbers f0 fd) (T : Blt mg) (C : Err K mg CW CF CN) (Cc : Cst K mg) (G_is_list : Def P w K mg base "is_list" 1 ["thing"] (spList K)) (G_is_count : Def P w K mg base "is_count" 1 ["thing"] (spCount K)) :
    FnR P w K mg base (L2.CX P w) anyR 2 f0 fd ["numbers"] (spY K 1 (YAscN CN)) := by
  refine fnR F sc_ascending_numbers (fun vs H Q E h => spY_len h) (fun cdv A outer s H vs Q E hr _ h => ?_)
  obtain ⟨U, n, es, o, ok, hd, hl, ⟨f, rfl, kind⟩, q⟩ := h
  obtain ⟨v, rfl, hv⟩ := dd1 hd
  obtain ⟨tm, gm⟩ := Cc.most_numbers
  have a : At U n (U.view H) H := At.here ok
  cases hlst : isLstD f with
  | false =>
    refine ⟨_, pss_cons (ps_if (PW.pt (pw_or (pt_not (pt_val (pe_go G_is_list hr (pa_cons (pv 0) pa_nil)))) (pw_or1 (pt_cmpR op_gt (pe_callB call_len (by rfl) T.len (by decide +kernel) (pa_cons (pv 0) pa_nil)) (pe_glob (v := .int 8) rfl gm ⟨_, rfl⟩) (nomark _)))))
        (pss_one (ps_raiseC C.n rfl (takes_of rfl rfl rfl rfl) rfl))
        pss_nil)
        (pss_cons (ps_if (pt_not (pt_val (pe_callB (cr_all rfl) (by rfl) T.all (by decide +kernel) (pa_cons (pe_lc (own := [("number", 1)]) (g := gName 1) (tt := tYes) rfl sc_ascending_numbers.nd (pi_list (pv 0)) (blkOk_by (N := ["numbers", "number"]) (sc := defScope s_ascending_numbers) (by decide +kernel)) (fun _ _ _ _ _ => (pg_name (i := 1) sc_ascending_numbers.nd rfl (.inl rfl))) (fun _ _ _ _ _ => pts_nil) (fun _ _ _ _ _ => (pe_go G_is_count hr (pa_cons (pv 1) pa_nil)))) pa_nil))))
        (pss_one (ps_raiseC C.n rfl (takes_of rfl rfl rfl rfl) rfl))
        pss_nil)
        (pss_cons (ps_if (pt_cmpR op_lt (pe_lenK (pv 0) T.len T.set) (pe_callB call_len (by rfl) T.len (by decide +kernel) (pa_cons (pv 0) pa_nil)) (nomark _))
        (pss_one (ps_raiseC C.n rfl (takes_of rfl rfl rfl rfl) rfl))
        pss_nil)
        (pss_one (ps_ret (pe_callTy call_tuple_of (by rfl) T.tuple (by decide +kernel) (pa_cons (pe_callB cr_srtI (by rfl) T.sorted (by decide +kernel) (pa_cons (pv 0) pa_nil)) pa_nil)))))), ?_⟩
    refine s1_if (b := true) a (T1.is (t1_or (a := true) (T1.is (t1_not (t1_val (E1.is (e1_go (a1_cons (e1_var rfl hv) a1_nil) rfl trivial) (congrArg PyData.bool hlst)))) rfl) (b := false) fun z => Bool.noConfusion z) rfl) (fun _ H1 a1 s1 => ?_) (fun z => Bool.noConfusion z)
    rcases kind with ⟨xs, ⟨hN, hb⟩, rfl⟩ | ⟨_, rfl⟩
    · rw [hb.lst] at hlst
      cases hlst
    · exact q H1 a1.ok s1
  | true =>
    have body : ∀ ds, bothD f ds → ((∃ xs, Dg xs ∧ ds = intsD xs ∧ o = .val (.tuple (intsD (srtI xs)))) ∨ ((8 < ds.length ∨ ds.all isCountD = false ∨ ∃ xs, ds = intsD xs ∧ ¬ xs.Nodup) ∧ o = .err CN)) → ds.length ≤ 100 →
        ∃ t, PSs (cxOf (L2.CX P w) P w K mg base ["numbers", "number"] "ascending_numbers" (defScope s_ascending_numbers) f0 cdv A outer s H E) (defBody s_ascending_numbers) t ∧ t { nx := fun _ H' => Q .non H', rt := Q } (start ["numbers", "number"] [v]) H := by
      intro ds hb kd hlen
      rcases hb with rfl | rfl
      · exact asc_numbersL (C := C) (T := T) (Cc := Cc) G_is_list G_is_count hr hv a q kd hlen
      · exact asc_numbersT (C := C) (T := T) (Cc := Cc) G_is_list G_is_count hr hv a q kd hlen
    rcases kind with ⟨xs, ⟨hN, hb⟩, e⟩ | ⟨bad, e⟩
    · refine body _ hb (.inl ⟨xs, hN, rfl, e⟩) ?_
      have := hN.l
      rw [intsD, List.length_map]
      omega
    · rcases bad with z | ⟨ds, hb, hl, r⟩
      · rw [z] at hlst
        cases hlst
      · exact body ds hb (.inr ⟨r, e⟩) hl
end
end Mw
namespace Mw
open PySem PySem.Spec PyProof.Rows L2
/-! ### spares -/
def PSp (ds : List PyData) (e : PyData) : Prop := ∃ names xs ns f d, Nm names ∧ xs.Perm names ∧ Dg ns ∧ bothD f (strsD xs) ∧ bothD d (intsD ns) ∧ ds = [f, d] ∧ e = .dict ((strsD names).zip (intsD (spa names.length ns)))
def spKv (names : List Str) (vals : List Int) : List (Key × V) := (names.zip vals).map fun p => ((Sum.inr p.1 : Key), V.int p.2)
theorem spKv_snoc {names : List Str} {vals : List Int} {i : Nat} {x : Str} {v : Int} (hx : names[i]? = some x) (hl : vals.length = i) : spKv (names.take (i + 1)) (vals ++ [v]) = spKv (names.take i) vals ++ [(Sum.inr x, V.int v)] := by
  unfold spKv
  have li : (names.take i).length = i := by
    rw [List.length_take]
    have := (List.getElem?_eq_some_iff.mp hx).1
    omega
  rw [List.take_add_one, hx, List.zip_append (by omega), List.map_append]
  rfl
theorem valV_not {x : Str} : ∀ {kvs : List (Key × V)}, (∀ p ∈ kvs, p.1 ≠ .inr x) → valV kvs (.inr x : Key) = none
  | [], _ => rfl
  | p :: kvs, h => by
    rw [valV_neg (h p (List.mem_cons_self ..))]
    exact valV_not fun q hq => h q (List.mem_cons_of_mem _ hq)
theorem spKv_none {names : List Str} {vals : List Int} {i : Nat} {x : Str} (nd : names.Nodup) (hx : names[i]? = some x) : valV (spKv (names.take i) vals) (.inr x : Key) = none := by
  refine valV_not fun p hp => ?_
  obtain ⟨q, hq, rfl⟩ := List.mem_map.mp hp
  have hm : q.1 ∈ names.take i := (List.of_mem_zip hq).1
  intro e
  have e' : q.1 = x := Sum.inr.inj e
  rw [e'] at hm
  obtain ⟨j, hj, ej⟩ := List.mem_iff_getElem.mp hm
  rw [List.length_take] at hj
  rw [List.getElem_take] at ej
  have hi := (List.getElem?_eq_some_iff.mp hx)
  obtain ⟨hi1, hi2⟩ := hi
  have hij : j < i := by omega
  have := List.pairwise_iff_getElem.mp nd j i (by omega) hi1 hij
  exact this (ej.trans hi2.symm)
theorem spKv_len (names : List Str) (vals : List Int) : (spKv names vals).length ≤ names.length := by
  unfold spKv
  rw [List.length_map, List.length_zip]
  exact Nat.min_le_left _ _
theorem spKv_dd {K : PySem.W.Frag} {H : Hp} : ∀ {names : List Str} {vals : List Int}, names.length = vals.length →
    DdAll K H ((spKv names vals).map fun p => kV p.1) (((strsD names).zip (intsD vals)).map (·.1)) ∧ DdAll K H ((spKv names vals).map (·.2)) (((strsD names).zip (intsD vals)).map (·.2))
  | [], [], _ => ⟨.nil, .nil⟩
  | x :: names, v :: vals, h => by
    obtain ⟨a, b⟩ := spKv_dd (names := names) (vals := vals) (Nat.succ.inj h)
    exact ⟨.cons (.str x) a, .cons (.int v) b⟩
  | [], _ :: _, h => by cases h
  | _ :: _, [], h => by cases h
theorem any_int {x : Int} : ∀ {ns : List Int}, (intsD ns).any (fun e => PyData.eqv e (.int x)) = ns.contains x
  | [] => rfl
  | n :: ns => by
    have ih := any_int (x := x) (ns := ns)
    have e : (intsD (n :: ns)).any (fun e => PyData.eqv e (.int x)) = (PyData.eqv (.int n) (.int x) || (intsD ns).any (fun e => PyData.eqv e (.int x))) := rfl
    rw [e, ih, List.contains_cons]
    congr 1
    simp only [PyData.eqv]
    rw [Bool.eq_iff_iff]
    simp only [beq_iff_eq, decide_eq_true_eq]
    exact ⟨fun h => h.symm, fun h => h.symm⟩
theorem flat_ints (ns : List Int) : (intsD ns).all flatD = true := by
  rw [List.all_eq_true]
  intro e he
  obtain ⟨x, hx, rfl⟩ := List.mem_map.mp he
  rfl
theorem part_put {U : Wo} {D : Addr} {n : Nat} {H : Hp} {kvs kvs' : List (Key × V)} (ok : (U.part D fun o => ∃ kvs, o = .dK kvs).ok n H) :
    (U.part D fun o => ∃ kvs, o = .dK kvs).ok n (upd H D (.dK kvs')) ∧ Same ((U.part D fun o => ∃ kvs, o = .dK kvs).view H) ((U.part D fun o => ∃ kvs, o = .dK kvs).view (upd H D (.dK kvs'))) := by
  obtain ⟨ok, o, ho, _⟩ := ok
  obtain ⟨x, y, z⟩ := U.own (o := .dK kvs') ok ho rfl
  exact ⟨⟨x, _, y, _, rfl⟩, fun a u q => hide_at (z a u (hide_of q).1 (hide_of q).2) (hide_of q).1⟩
theorem part_hide {U : Wo} {D : Addr} {Pm : HO → Prop} {o : HO} {n : Nat} {M H : Hp} (a : At (U.part D Pm) n M H) (h : H D = some o) : At (U.hide D o) n M H := by
  obtain ⟨⟨ok, o', ho, _⟩, up⟩ := a
  have e := (U.le _ _ _ ho).symm.trans h
  cases e
  exact ⟨⟨ok, ho⟩, up⟩
theorem hide_part {U : Wo} {D : Addr} {Pm : HO → Prop} {o : HO} {n : Nat} {M H : Hp} (p : Pm o) (a : At (U.hide D o) n M H) : At (U.part D Pm) n M H := ⟨⟨a.ok.1, o, a.ok.2, p⟩, a.up⟩
/-- a for, one object of its own beside -/
theorem s1_forD {K : PySem.W.Frag} {U : Wo} {M : Hp} {σ : L2.St} {n : Nat} {D : Ends} {H : Hp} {D0 : Addr} {o0 : HO} {Pm : HO → Prop} {wi : TI} {j : Nat} {ds : List PyData} {tb : TS} (p0 : Pm o0) (a : At (U.hide D0 o0) n M H) (h : I1 K (U.hide D0 o0) M wi σ ds) (Pv : Nat → L2.St → Hp → Prop) (h0 : ∀ H', H' D0 = some o0 → Pv 0 σ H')
    (hs : ∀ i σ' H' v d (N : L2.St → Hp → Prop), ds[i]? = some d → Pv i σ' H' → At (U.part D0 Pm) n M H' → Same (hideV D0 (U.view H)) (hideV D0 (U.view H')) → Dd K (hideV D0 (U.view H')) v d → (∀ σ2 H2, Pv (i + 1) σ2 H2 → At (U.part D0 Pm) n M H2 → Same (hideV D0 (U.view H')) (hideV D0 (U.view H2)) → N σ2 H2) →
      tb { D with nx := N, ct := N, bk := D.nx } (σ'.set j (some v)) H')
    (hd : ∀ σ' H', Pv ds.length σ' H' → At (U.part D0 Pm) n M H' → Same (hideV D0 (U.view H)) (hideV D0 (U.view H')) → D.nx σ' H') : tFor wi (gName j) tb D σ H :=
  h n H a _ fun J H1 ok1 s1 w => by
    refine for_it w (fun i σ' H' => Pv i σ' H' ∧ At (U.part D0 Pm) n M H' ∧ Same (hideV D0 (U.view H1)) (hideV D0 (U.view H'))) ⟨h0 _ (U.le _ _ _ ok1.2), ⟨⟨ok1.1, _, ok1.2, p0⟩, a.up.trans s1⟩, Same.refl _⟩ (fun i σ' H' _ z => z.2.2) ?_ ?_
    · rintro i x σ' H2 H3 hi ⟨pv, a2, s2⟩ ⟨rfl, d, hd, dx⟩
      exact hs i σ' H3 x d _ hd pv a2 (show Same (hideV D0 (U.view H)) _ from (show Same (hideV D0 (U.view H)) (hideV D0 (U.view H1)) from s1).trans s2) ((show Dd K (hideV D0 (U.view H1)) x d from dx).same s2) fun σ2 H4 p2 a4 s4 => ⟨p2, a4, s2.trans s4⟩
    · rintro σ' H2 ⟨pv, a2, s2⟩
      exact hd _ _ pv a2 ((show Same (hideV D0 (U.view H)) (hideV D0 (U.view H1)) from s1).trans s2)
def isPk (m : Nat) : PyData → Bool
  | .tuple ts => decide (ts.length = m) && ts.all isCountD
  | _ => false
def YSp (CF CN : Addr) (ds : List PyData) (o : Out) : Prop := ∃ f d, ds = [f, d] ∧ ((∃ names ns, goodF f names ∧ goodN d ns ∧ o = .val (.dict ((strsD names).zip (intsD (spa names.length ns))))) ∨ (badF f ∧ o = .err CF) ∨ ∃ names, goodF f names ∧ badN d ∧ o = .err CN)
def YPk (CF : Addr) (ds : List PyData) (o : Out) : Prop := ∃ f t, ds = [f, t] ∧ ((∃ names b, goodF f names ∧ (∀ ts, t = .tuple ts → ts.length ≤ 100) ∧ b = (isTupD t && isPk names.length t) ∧ o = .val (.bool b)) ∨ (badF f ∧ o = .err CF))
section
variable {P : Program} {w : World} {K : PySem.W.Frag} {mg : Str → Option Value} {base : Heap} {CW CF CN : Addr}
theorem ok_is_packet {f0 : Addr} {fd : FuncData} (F : Fun K "is_packet" "is_packet" s_is_packet f0 fd) (T : Blt mg) (G_asc : DefR P w K mg base (L2.CX P w) anyR "ascending_fields" 2 ["fields"] (spY K 1 (YAsc CF))) (G_is_count : Def P w K mg base "is_count" 1 ["thing"] (spCount K)) :
    FnR P w K mg base (L2.CX P w) anyR 3 f0 fd ["fields", "thing"] (spY K 2 (YPk CF)) := by
  refine fnR F sc_is_packet (fun vs H Q E h => spY_len h) (fun cdv A outer s H vs Q E hr _ h => ?_)
  obtain ⟨U, n, ds, o, ok, hd, hl, ⟨fF, t, rfl, kind⟩, q⟩ := h
  obtain ⟨v, u, rfl, hv, hu⟩ := dd2 hd
  have a : At U n (U.view H) H := At.here ok
  refine ⟨_, pss_cons (ps_set (i := 2) sc_is_packet.nd rfl (.inl rfl) (pe_goE (E := E) G_asc hr (fun _ _ _ _ _ => trivial) (pass_on (takes_of rfl rfl rfl rfl)) (pa_cons (pv 0) pa_nil)))
        (pss_cons (ps_if (PW.pt (pw_or (pt_not (pt_val (pe_callB call_isi (by rfl) T.isinstance (by decide +kernel) (pa_cons (pv 1) (pa_cons (pe_bltn (v := .ty "tuple") (by rfl) T.tuple (by decide +kernel) rfl) pa_nil))))) (pw_or1 (pt_cmpR op_ne (pe_callB call_len (by rfl) T.len (by decide +kernel) (pa_cons (pv 1) pa_nil)) (pe_callB call_len (by rfl) T.len (by decide +kernel) (pa_cons (pv 2) pa_nil)) (nomark _)))))
        (pss_one (ps_ret pe_bl))
        pss_nil)
        (pss_one (ps_ret (pe_callB (cr_all rfl) (by rfl) T.all (by decide +kernel) (pa_cons (pe_lc (own := [("number", 3)]) (g := gName 3) (tt := tYes) rfl sc_is_packet.nd (pi_tup (pv 1)) (blkOk_by (N := ["fields", "thing", "names", "number"]) (sc := defScope s_is_packet) (by decide +kernel)) (fun _ _ _ _ _ => (pg_name (i := 3) sc_is_packet.nd rfl (.inl rfl))) (fun _ _ _ _ _ => pts_nil) (fun _ _ _ _ _ => (pe_go G_is_count hr (pa_cons (pv 3) pa_nil)))) pa_nil))))), ?_⟩
  rcases kind with ⟨names, b, ⟨xs, hN, hp, hf⟩, ht, rfl, rfl⟩ | ⟨bad, rfl⟩
  rotate_left
  · exact s1_asgX a (a1_cons (e1_var rfl hv) a1_nil) rfl ⟨fF, rfl, .inr ⟨bad, rfl⟩⟩ fun H1 ok1 s1 => q H1 ok1 s1
  have l3 := hN.l3
  have lx : (strsD names).length = names.length := List.length_map ..
  refine s1_asgY a (a1_cons (e1_var rfl hv) a1_nil) rfl ⟨fF, rfl, .inl ⟨names, ⟨xs, hN, hp, hf⟩, rfl⟩⟩ fun x H1 a1 s1 d1 => ?_
  have hu1 := hu.same s1
  dsimp only
  refine rd_seq ?_
  cases hb : isTupD t with
  | false =>
    refine s1_if (b := true) a1 (T1.is (t1_or (a := true) (T1.is (t1_not (t1_val (e1_isi (e1_var rfl hu1) (kit_tup _)))) (by rw [hb] <;> rfl)) (b := false) fun z => Bool.noConfusion z) rfl) (fun _ H2 a2 s2 => ?_) (fun z => Bool.noConfusion z)
    refine s1_ret (K := K) (d := .bool false) a2 e1_bl fun y H3 a3 s3 d3 => q y H3 a3.ok ((s1.trans s2).trans s3) ?_
    rw [hb] at *
    exact d3
  | true =>
    obtain ⟨ts, rfl⟩ : ∃ ts, t = .tuple ts := by cases t <;> first | exact ⟨_, rfl⟩ | cases hb
    have hl := ht ts rfl
    by_cases c1 : ts.length = names.length
    · refine s1_if (b := false) a1 (T1.is (t1_or (a := false) (T1.is (t1_not (b := true) (t1_val (e1_isi (e1_var rfl hu1) (kit_tup _)))) rfl) (b := false) fun _ => t1_test (E1.is (e1_op (e1_len (e1_var rfl hu1) rfl (by omega)) (e1_len (e1_var rfl d1) (congrArg some lx) (by omega)) r1_neI) (by rw [c1]; simp))) rfl) (fun z => Bool.noConfusion z) fun _ H2 a2 s2 => ?_
      refine rd_next ?_
      dsimp only
      refine s1_ret (d := .bool (ts.all isCountD)) a2 (E1.is (e1_all (bs := ts.map isCountD) (E1.is (e1_lc (p := fun _ => true) (f := fun d => .bool (isCountD d)) (i1_tup (e1_var rfl hu1)) (by omega) (fun _ => rfl) (fun U' M' v d e hm hd => t1_yes) (fun U' M' v d e hm _ hd => e1_go (a1_cons (e1_var rfl hd) a1_nil) rfl trivial)) (congrArg PyData.list all_map))) (congrArg PyData.bool all_id)) fun y H3 a3 s3 d3 => q y H3 a3.ok ((s1.trans s2).trans s3) ?_
      have e : (isTupD (.tuple ts) && isPk names.length (.tuple ts)) = ts.all isCountD := by simp [isTupD, isPk, c1]
      rw [e]
      exact d3
    · refine s1_if (b := true) a1 (T1.is (t1_or (a := false) (T1.is (t1_not (b := true) (t1_val (e1_isi (e1_var rfl hu1) (kit_tup _)))) rfl) (b := true) fun _ => t1_test (E1.is (e1_op (e1_len (e1_var rfl hu1) rfl (by omega)) (e1_len (e1_var rfl d1) (congrArg some lx) (by omega)) r1_neI) (congrArg PyData.bool (by simp; omega)))) rfl) (fun _ H2 a2 s2 => ?_) (fun z => Bool.noConfusion z)
      refine s1_ret (K := K) (d := .bool false) a2 e1_bl fun y H3 a3 s3 d3 => q y H3 a3.ok ((s1.trans s2).trans s3) ?_
      have e : (isTupD (.tuple ts) && isPk names.length (.tuple ts)) = false := by simp [isTupD, isPk, c1]
      rw [e]
      exact d3
theorem ok_spares {f0 : Addr} {fd : FuncData} (F : Fun K "spares" "spares" s_spares f0 fd) (T : Blt mg) (G_asc : DefR P w K mg base (L2.CX P w) anyR "ascending_fields" 2 ["fields"] (spY K 1 (YAsc CF))) (G_ascN : DefR P w K mg base (L2.CX P w) anyR "ascending_numbers" 2 ["numbers"] (spY K 1 (YAscN CN))) :
    FnR P w K mg base (L2.CX P w) anyR 3 f0 fd ["fields", "numbers"] (spY K 2 (YSp CF CN)) := by
  refine fnR F sc_spares (fun vs H Q E h => spY_len h) (fun cdv A outer s H vs Q E hr _ h => ?_)
  obtain ⟨U, n, ds, o, ok, hd, hl, ⟨fF, dN, rfl, kind⟩, q⟩ := h
  obtain ⟨v, u, rfl, hv, hu0⟩ := dd2 hd
  have hu := hu_of hr.r
  have a : At U n (U.view H) H := At.here ok
  refine ⟨_, pss_cons (ps_set (i := 2) sc_spares.nd rfl (.inl rfl) (pe_goE (E := E) G_asc hr (fun _ _ _ _ _ => trivial) (pass_on (takes_of rfl rfl rfl rfl)) (pa_cons (pv 0) pa_nil)))
        (pss_cons (ps_set (i := 3) sc_spares.nd rfl (.inl rfl) (pe_goE (E := E) G_ascN hr (fun _ _ _ _ _ => trivial) (pass_on (takes_of rfl rfl rfl rfl)) (pa_cons (pv 1) pa_nil)))
        (pss_cons (ps_set (i := 4) sc_spares.nd rfl (.inl rfl) pe_dnewK)
        (pss_cons (ps_set (i := 5) sc_spares.nd rfl (.inl rfl) pe_int)
        (pss_cons (ps_for (passes_of rfl) rfl (pi_tup (pv 2)) (pg_name (i := 6) sc_spares.nd rfl (.inl rfl))
        (pss_cons (ps_while (passes_of rfl) (pt_cmpR op_in_seq (pv 5) (pv 3) rfl)
          (pss_one (ps_aug (i := 5) sc_spares.nd rfl (.inl rfl) pe_int ip_add)))
          (pss_cons (ps_dput hu (pv 4) (pv 6) (pv 5) rfl)
          (pss_one (ps_aug (i := 5) sc_spares.nd rfl (.inl rfl) pe_int ip_add)))))
        (pss_one (ps_ret (pv 4))))))), ?_⟩
  have goodOr : (∃ names, goodF fF names) ∨ badF fF := by
    rcases kind with ⟨names, _, h, _⟩ | ⟨h, _⟩ | ⟨names, h, _⟩
    · exact .inl ⟨names, h⟩
    · exact .inr h
    · exact .inl ⟨names, h⟩
  rcases kind with ⟨names, ns, ⟨xs, hN, hp, hf⟩, ⟨hg, hn⟩, rfl⟩ | ⟨bad, rfl⟩ | ⟨names, ⟨xs, hN, hp, hf⟩, bad, rfl⟩
  rotate_left
  · exact s1_asgX a (a1_cons (e1_var rfl hv) a1_nil) rfl ⟨fF, rfl, .inr ⟨bad, rfl⟩⟩ fun H1 ok1 s1 => q H1 ok1 s1
  · refine s1_asgY a (a1_cons (e1_var rfl hv) a1_nil) rfl ⟨fF, rfl, .inl ⟨names, ⟨xs, hN, hp, hf⟩, rfl⟩⟩ fun v2 H1 a1 s1 d1 => ?_
    exact s1_asgX a1 (a1_cons (e1_var rfl (hu0.same s1)) a1_nil) rfl ⟨dN, rfl, .inr ⟨bad, rfl⟩⟩ fun H2 ok2 s2 => q H2 ok2 (s1.trans s2)
  have l3 := hN.l3
  have l8 := hg.l
  refine s1_asgY a (a1_cons (e1_var rfl hv) a1_nil) rfl ⟨fF, rfl, .inl ⟨names, ⟨xs, hN, hp, hf⟩, rfl⟩⟩ fun v2 H1 a1 s1 d1 => ?_
  refine s1_asgY a1 (a1_cons (e1_var rfl (hu0.same s1)) a1_nil) rfl ⟨dN, rfl, .inl ⟨ns, ⟨hg, hn⟩, rfl⟩⟩ fun v3 H2 a2 s2 d2 => ?_
  dsimp only
  refine rd_seq ?_
  refine rd_asg ?_
  intro D nD
  obtain ⟨ok3, s3, f3, g3⟩ := U.new (o := .dK []) a2.ok nD rfl
  have off : Same (U.view H2) (hideV D (U.view (upd H2 D (.dK [])))) := fun b o e => hide_at (s3 _ _ e) (fun z => by
    rw [z, g3] at e
    cases e)
  generalize eD : upd H2 D (.dK []) = H3 at ok3 s3 f3 off
  refine rd_name ?_
  dsimp only
  refine rd_seq ?_
  refine rd_asg ?_
  refine rd_c ?_
  refine rd_name ?_
  dsimp only
  refine rd_seq ?_
  have names2 : Dd K (hideV D (U.view H3)) v2 (.tuple (strsD names)) := (d1.same s2).same off
  have named2 : Dd K (hideV D (U.view H3)) v3 (.tuple (intsD (srtI ns))) := d2.same off
  have aV : At (U.hide D (.dK [])) n (hideV D (U.view H3)) H3 := ⟨⟨ok3, f3⟩, Same.refl _⟩
  have lx : (strsD names).length = names.length := List.length_map ..
  have ct : ∀ num : Nat, (intsD (srtI ns)).any (fun e => PyData.eqv e (.int (num : Int))) = ns.contains (Int.ofNat num) := fun num => by
    rw [any_int, Bool.eq_iff_iff, List.contains_iff_mem, List.contains_iff_mem]
    exact (srtI_perm ns).mem_iff
  refine s1_forD (U := U) (D0 := D) (Pm := fun o => ∃ kvs, o = .dK kvs) ⟨_, rfl⟩ aV (i1_tup (e1_var rfl names2)) (fun i σ H' => ∃ (num : Nat) (x6 : Option V), σ = [some v, some u, some v2, some v3, some (.ref D), some (.int num), x6] ∧ H' D = some (.dK (spKv (names.take i) (nonm ns num))) ∧ (nonm ns num).length = i) (fun H' h => ⟨0, none, rfl, h, rfl⟩) ?hs ?hd
  case hs =>
    rintro i σ' H' x d N hd ⟨num, x6, rfl, hD, hlen⟩ a4 s4 dx hN'
    obtain ⟨nm, hnm, rfl⟩ : ∃ nm, names[i]? = some nm ∧ d = .str nm := by
      rw [strsD, List.getElem?_map] at hd
      obtain ⟨nm, h1, h2⟩ := Option.map_eq_some_iff.mp hd
      exact ⟨nm, h1, h2.symm⟩
    cases dx
    have hil : i < names.length := (List.getElem?_eq_some_iff.mp hnm).1
    dsimp only
    refine rd_seq ?_
    refine ⟨fun m σ H2 => ∃ num : Nat, m = i + ns.length - num ∧ num ≤ i + ns.length ∧ σ = [some v, some u, some v2, some v3, some (.ref D), some (.int num), some (.str nm)] ∧ H2 D = some (.dK (spKv (names.take i) (nonm ns num))) ∧ (nonm ns num).length = i ∧ At (U.part D fun o => ∃ kvs, o = .dK kvs) n (hideV D (U.view H3)) H2 ∧ Same (hideV D (U.view H')) (hideV D (U.view H2)),
      ⟨_, num, rfl, by have := nonm_len ns num; omega, rfl, hD, hlen, a4, Same.refl _⟩, ?_⟩
    rintro m σ2 H4 ⟨num, rfl, hnum, rfl, hD4, hlen4, a5, s5⟩
    have a6 := part_hide a5 hD4
    refine (T1.is (t1_test (e1_op (e1_var rfl (Dd.int (K := K) (num : Int))) (e1_var rfl named2) (r1_inT (neg := false) rfl (flat_ints _)))) (ct num)) n H4 a6 _ fun H5 ok5 s6 => ?_
    have hD5 : H5 D = some (.dK (spKv (names.take i) (nonm ns num))) := U.le _ _ _ ok5.2
    have s7 : Same (hideV D (U.view H')) (hideV D (U.view H5)) := s5.trans s6
    have a7 : At (U.hide D (.dK (spKv (names.take i) (nonm ns num)))) n (hideV D (U.view H3)) H5 := a6.step ok5 s6
    have st := nonm_succ ns num
    cases hc : ns.contains (Int.ofNat num) with
    | true =>
      rw [hc, if_pos rfl, List.append_nil] at st
      have ln := nonm_len ns (num + 1)
      rw [st, hlen4] at ln
      refine iteT ⟨_, fun σ' H' z => z, ?_⟩
      refine ⟨.int num, rfl, rd_c ⟨_, _, rfl, rfl, ?_⟩⟩
      exact ⟨i + ns.length - (num + 1), by omega, num + 1, rfl, by omega, rfl, by rw [st]; exact hD5, by rw [st]; exact hlen4, hide_part ⟨_, rfl⟩ a7, s7⟩
    | false =>
      rw [hc, if_neg Bool.false_ne_true] at st
      refine iteF ?_
      dsimp only
      refine rd_seq ?_
      refine ⟨.int num, rfl, .ref D, rfl, .str nm, rfl, D, _, rfl, DPut.k (k := (Sum.inr nm : Key)) hD5 (Nat.lt_of_le_of_lt (spKv_len _ _) (by rw [List.length_take]; exact Nat.lt_of_le_of_lt (Nat.min_le_right _ _) (Nat.lt_of_le_of_lt l3 (show (3 : Nat) < sizeLine by decide)))), ?_⟩
      rw [putK_new _ (spKv_none hN.nd hnm), ← spKv_snoc hnm hlen4]
      obtain ⟨ok8, s8⟩ := part_put (kvs := spKv (names.take i) (nonm ns num)) (kvs' := spKv (names.take (i + 1)) (nonm ns num ++ [Int.ofNat num])) (hide_part ⟨_, rfl⟩ a7).ok
      refine ⟨.int num, rfl, rd_c ⟨_, _, rfl, rfl, ?_⟩⟩
      have l9 : (nonm ns (num + 1)).length = i + 1 := by
        rw [st, List.length_append, hlen4, List.length_singleton]
      have h9 : upd H5 D (.dK (spKv (names.take (i + 1)) (nonm ns num ++ [Int.ofNat num]))) D = some (.dK (spKv (names.take (i + 1)) (nonm ns (num + 1)))) := by
        rw [st, upd_same]
      refine hN' _ _ ⟨num + 1, _, rfl, h9, l9⟩ ⟨ok8, a7.up.trans s8⟩ (s7.trans s8)
  case hd =>
    rintro σ' H' ⟨num, x6, rfl, hD, hlen⟩ a4 s4
    rw [lx] at hD hlen
    dsimp only
    refine rd_ret (rd_var rfl ?_)
    have a5 := part_hide a4 hD
    rw [List.take_length] at hD a5
    have es : spa names.length ns = nonm ns num := spa_of hlen
    have up : Same (U.view H) (hideV D (U.view H')) := ((s1.trans s2).trans off).trans s4
    obtain ⟨k1, k2⟩ := spKv_dd (K := K) (H := U.view H') (names := names) (vals := nonm ns num) hlen.symm
    refine q _ _ a5.ok.1 (up.trans (hide_le _ _)) ?_
    rw [es]
    exact .dic a5.ok.2 k1 k2
end
end Mw
namespace Mw
open PySem PySem.Spec PyProof.Rows L2
/-! ### every packet, samples -/
def PEv (ds : List PyData) (e : PyData) : Prop := ∃ cs : List (List Int), cs.length ≤ 3 ∧ (∀ c ∈ cs, c.length ≤ 9) ∧ ds = [.list (cs.map fun c => .list (intsD c))] ∧ e = pksD (cs.foldl pext [[]])
def PSm (ds : List PyData) (e : PyData) : Prop := ∃ names xs ns f d, Nm names ∧ xs.Perm names ∧ Dg ns ∧ bothD f (strsD xs) ∧ bothD d (intsD ns) ∧ ds = [f, d] ∧ e = pksD (samp ns (spa names.length ns))
theorem ev_len : ∀ (cs : List (List Int)) (ps : List (List Int)), (∀ c ∈ cs, c.length ≤ 9) → (cs.foldl pext ps).length ≤ ps.length * 9 ^ cs.length
  | [], ps, _ => by simp
  | c :: cs, ps, h => by
    have ih := ev_len cs (pext ps c) fun d hd => h d (List.mem_cons_of_mem _ hd)
    rw [pext_len] at ih
    have z := Nat.mul_le_mul_left ps.length (h c (List.mem_cons_self ..))
    have z2 := Nat.mul_le_mul_right (9 ^ cs.length) z
    rw [List.foldl_cons, List.length_cons, Nat.pow_succ]
    refine Nat.le_trans ih (Nat.le_trans z2 (Nat.le_of_eq ?_))
    rw [Nat.mul_assoc, Nat.mul_comm 9]
theorem ev_each : ∀ (cs : List (List Int)) (ps : List (List Int)) (d : Nat), (∀ p ∈ ps, p.length = d) → ∀ p ∈ cs.foldl pext ps, p.length = d + cs.length
  | [], ps, d, h => h
  | c :: cs, ps, d, h => by
    rw [List.foldl_cons, List.length_cons, show d + (cs.length + 1) = d + 1 + cs.length by omega]
    refine ev_each cs (pext ps c) (d + 1) fun q hq => ?_
    obtain ⟨p, hp, hq⟩ := List.mem_flatMap.mp hq
    obtain ⟨n, hn, rfl⟩ := List.mem_map.mp hq
    rw [List.length_append, h p hp] <;> rfl
def snocD : PyData → PyData → PyData
  | .tuple xs, e => .tuple (xs ++ [e])
  | _, _ => .none
theorem snoc_pk (p : List Int) (n : Int) : snocD (pkD p) (.int n) = pkD (p ++ [n]) := by
  simp [snocD, pkD, intsD]
theorem pext_dd (ps : List (List Int)) (c : List Int) : ((ps.map pkD).flatMap fun d => (intsD c).map (snocD d)) = (pext ps c).map pkD := by
  unfold pext
  induction ps with
  | nil => rfl
  | cons p ps ih =>
    rw [List.map_cons, List.flatMap_cons, ih, List.flatMap_cons, List.map_append]
    congr 1
    unfold intsD
    rw [List.map_map, List.map_map]
    refine List.map_congr_left fun n _ => ?_
    exact snoc_pk p n
section
variable {P : Program} {w : World} {K : PySem.W.Frag} {mg : Str → Option Value} {base : Heap}
theorem ok_every {f : Addr} {fd : FuncData} (F : Fun K "every_packet" "every_packet" s_every_packet f fd) (T : Blt mg) : FnG P w K mg base 1 f fd ["choices"] (spXN K 1 PEv) := by
  refine fnG F sc_every_packet (fun vs H Q E h => spXN_len h) (fun cdv A outer s H vs Q E hr h => ?_)
  obtain ⟨U, n, ds, e, ok, hd, hl, ⟨cs, hcl, hc9, rfl, rfl⟩, q⟩ := h
  obtain ⟨v, rfl, hv⟩ := dd1 hd
  have a : At U n (U.view H) H := At.here ok
  refine ⟨_, pss_cons (ps_set (i := 1) sc_every_packet.nd rfl (.inl rfl) (pe_lst (pa_cons (pe_tup pa_nil) pa_nil)))
        (pss_cons (ps_for PassesOwn.never rfl (pi_list (pv 0)) (pg_name (i := 2) sc_every_packet.nd rfl (.inr rfl))
        (pss_one (ps_setLc2 (i := 1) (own := [("packet", 3), ("number", 4)]) (g := gName 3) (tt := tYes) (g1 := gName 4) (tt1 := tYes) (wi1 := iList K (tVar 2)) (vs1 := [4]) rfl sc_every_packet.nd rfl rfl (sw_true rfl rfl rfl (by decide +kernel)) (pi_list (pv 1)) (blkOk_by (N := ["choices", "packets", "numbers", "packet", "number"]) (sc := defScope s_every_packet) (by decide +kernel)) (by decide) (fun _ _ _ _ _ => (pg_name (i := 3) sc_every_packet.nd rfl (.inl rfl))) (fun _ _ _ _ _ => pts_nil) (fun _ _ _ _ _ => (pi_list (pv 2))) (fun _ _ _ _ _ => (pg_name (i := 4) sc_every_packet.nd rfl (.inl rfl))) (fun _ _ _ _ _ => pts_nil) (fun _ _ _ _ _ => (pe_op (r := rCatA K) op_catA (pv 3) (pe_tup (pa_cons (pv 4) pa_nil)))))))
        (pss_one (ps_ret (pv 1)))), ?_⟩
  refine s1_asgN (K := K) (d := pksD [[]]) a (e1_lstN (a1_cons (e1_tup a1_nil (by decide)) a1_nil) (by decide)) fun v1 H1 a1 s1 d1 nw1 => ?_
  have lc : (cs.map fun c => PyData.list (intsD c)).length = cs.length := List.length_map ..
  refine s1_forH a1 (i1_list (e1_var rfl (hv.same s1))) (fun i σ H' => ∃ (vp : V) (x2 x3 x4 : Option V), σ = [some v, some vp, x2, x3, x4] ∧ Dd K (U.view H') vp (pksD ((cs.take i).foldl pext [[]])) ∧ New U H vp) (fun H' _ s' => ⟨v1, none, none, none, rfl, d1.same s', nw1⟩) ?hs ?hd
  case hs =>
    rintro i σ' H2 x d N hdi ⟨vp, x2, x3, x4, rfl, dp, nw⟩ a2 s2 dx hN
    obtain ⟨c, hci, rfl⟩ : ∃ c, cs[i]? = some c ∧ d = .list (intsD c) := by
      rw [List.getElem?_map] at hdi
      obtain ⟨c, h1, h2⟩ := Option.map_eq_some_iff.mp hdi
      exact ⟨c, h1, h2.symm⟩
    have hil := (List.getElem?_eq_some_iff.mp hci).1
    have h9 : ∀ c ∈ cs.take i, c.length ≤ 9 := fun c h => hc9 c (List.mem_of_mem_take h)
    have lt : (cs.take i).length = i := by
      rw [List.length_take]
      omega
    have lp : ((cs.take i).foldl pext [[]]).length ≤ 729 := by
      refine Nat.le_trans (ev_len _ _ h9) ?_
      rw [lt, List.length_singleton, Nat.one_mul]
      exact Nat.le_trans (Nat.pow_le_pow_right (by decide) (show i ≤ 3 by omega)) (by decide)
    have l9 : c.length ≤ 9 := hc9 c (List.mem_of_getElem? hci)
    have lz : (intsD c).length = c.length := List.length_map ..
    refine s1_asgN (K := K) (At.here a2.ok) (E1N.is (e1_lc2N (f := snocD) (i1_list (e1_var rfl (show Dd K (U.view H2) vp (.list (((cs.take i).foldl pext [[]]).map pkD)) from dp))) ?z (fun _ => rfl) (fun _ _ => rfl) (fun U' M' v d e hm hd => i1_list (e1_var rfl (dx.same e))) (fun U' M' v u d e em hm hme hd he => ?el)) (congrArg PyData.list (pext_dd _ c))) fun v5 H3 a3 s3 d3 nw3 => ?_
    case z =>
      rw [List.length_map, lz]
      exact Nat.le_trans (Nat.mul_le_mul lp l9) (by decide)
    case el =>
      obtain ⟨p, hp, rfl⟩ := List.mem_map.mp hm
      obtain ⟨m, hm', rfl⟩ := List.mem_map.mp hme
      have l := ev_each (cs.take i) [[]] 0 (fun p hp => by rw [List.mem_singleton.mp hp] <;> rfl) p hp
      have li : (intsD p).length = p.length := List.length_map ..
      exact e1_op (e1_var rfl hd) (e1_tup (a1_cons (e1_var rfl he) a1_nil) (show 1 ≤ 100000 by decide)) (r1_catA (show (intsD p).length + 1 ≤ 100000 by omega))
    refine hN _ _ ⟨v5, _, _, _, rfl, ?_, nw3.back (s1.trans s2)⟩ (a2.step a3.ok s3) s3
    rw [List.take_add_one, hci, List.foldl_append]
    exact d3
  case hd =>
    rintro σ' H2 ⟨vp, x2, x3, x4, rfl, dp, nw⟩ a2 s2
    rw [lc, List.take_length] at dp
    exact rd_ret (rd_var rfl (q _ _ a2.ok (s1.trans s2) dp nw))
end
end Mw
namespace Mw
open PySem PySem.Spec PyProof.Rows L2
theorem dic_kvs {K : PySem.W.Frag} {H : Hp} : ∀ {names : List Str} {vals : List Int} {kvs : List (Key × V)}, names.length = vals.length → DdAll K H (kvs.map fun p => kV p.1) (((strsD names).zip (intsD vals)).map (·.1)) → DdAll K H (kvs.map (·.2)) (((strsD names).zip (intsD vals)).map (·.2)) → kvs = spKv names vals
  | [], [], [], _, _, _ => rfl
  | [], [], _ :: _, _, h, _ => by cases h
  | x :: names, v :: vals, [], _, h, _ => by cases h
  | x :: names, v :: vals, p :: kvs, l, h1, h2 => by
    have e1 : ((strsD (x :: names)).zip (intsD (v :: vals))).map (·.1) = .str x :: ((strsD names).zip (intsD vals)).map (·.1) := rfl
    have e2 : ((strsD (x :: names)).zip (intsD (v :: vals))).map (·.2) = .int v :: ((strsD names).zip (intsD vals)).map (·.2) := rfl
    rw [e1] at h1
    rw [e2] at h2
    cases h1 with
    | cons a b =>
      cases h2 with
      | cons c d =>
        have ih := dic_kvs (Nat.succ.inj l) b d
        obtain ⟨k, u⟩ := p
        have c' : u = .int v := by cases c; rfl
        have a' : k = .inr x := by
          cases k with
          | inl i => cases a
          | inr y =>
            have z : Dd K H (.str y) (.str x) := a
            cases z
            rfl
        subst a' c'
        rw [ih]
        rfl
  | [], _ :: _, _, l, _, _ => by cases l
  | _ :: _, [], _, l, _, _ => by cases l
theorem spKv_get : ∀ {names : List Str} {vals : List Int} {i : Nat} {x : Str} {v : Int}, names.Nodup → names[i]? = some x → vals[i]? = some v → valV (spKv names vals) (.inr x : Key) = some (.int v)
  | y :: names, u :: vals, 0, x, v, nd, h1, h2 => by
    cases h1
    cases h2
    exact valV_pos rfl
  | y :: names, u :: vals, i + 1, x, v, nd, h1, h2 => by
    obtain ⟨n1, n2⟩ := List.nodup_cons.mp nd
    have ne : ¬ ((Sum.inr y : Key)) = .inr x := fun z => n1 (by
      have e := Sum.inr.inj z
      rw [e]
      exact List.mem_of_getElem? h1)
    have := spKv_get n2 (i := i) h1 h2
    show valV (((Sum.inr y : Key), V.int u) :: spKv names vals) _ = _
    rw [valV_neg ne]
    exact this
  | [], _, _, _, _, _, h1, _ => by simp at h1
  | _ :: _, [], _, _, _, _, _, h2 => by simp at h2
theorem spKv_keys : ∀ {names : List Str} {vals : List Int}, names.length = vals.length → ((spKv names vals).map fun p => keyD p.1) = strsD names
  | [], [], _ => rfl
  | x :: names, v :: vals, h => by
    have ih := spKv_keys (names := names) (vals := vals) (Nat.succ.inj h)
    show keyD (.inr x) :: (spKv names vals).map (fun p => keyD p.1) = _
    rw [ih]
    rfl
  | [], _ :: _, h => by cases h
  | _ :: _, [], h => by cases h
theorem ints_off {K : PySem.W.Frag} {M : Hp} {D : Addr} {kvs : List (Key × V)} {v : V} {d : PyData} {ns : List Int} (h : Dd K M v d) (hd : bothD d (intsD ns)) (hD : M D = some (.dK kvs)) : Dd K (hideV D M) v d := by
  rcases hd with rfl | rfl
  · cases h with
    | lst hq ha =>
      have e := vals_int ha
      subst e
      exact .lst (hide_at hq (fun z => by
        rw [z, hD] at hq
        cases hq)) (int_vals _)
  · cases h with
    | tup hq ha =>
      have e := vals_int ha
      subst e
      refine .tup ?_ (int_vals _)
      rcases hq with (h | ⟨o, h⟩) | h
      · exact .inl (.inl (hide_at h (fun z => by
          rw [z, hD] at h
          cases h)))
      · exact .inl (.inr ⟨o, hide_at h (fun z => by
          rw [z, hD] at h
          cases h)⟩)
      · exact .inr h
theorem A1.is {K : PySem.W.Frag} {U : Wo} {M : Hp} {t : TA} {σ : L2.St} {ds es : List PyData} (h : A1 K U M t σ ds) (z : ds = es) : A1 K U M t σ es := z ▸ h
/-- what the list of a field is -/
def numOf (kvs : List (Key × V)) (x : Str) : Int := match valV kvs (.inr x : Key) with
  | some (.int i) => i
  | _ => 0
def pickD (kvs : List (Key × V)) (ns : List Int) : PyData → PyData
  | .str x => .list (intsD (srtI (ns ++ [numOf kvs x])))
  | _ => .none
theorem pick_all {names : List Str} {vals ns : List Int} (nd : names.Nodup) (hl : names.length = vals.length) : (strsD names).map (pickD (spKv names vals) ns) = (vals.map fun s => srtI (ns ++ [s])).map fun c => .list (intsD c) := by
  refine List.ext_getElem (by simp [strsD, hl]) fun i h1 h2 => ?_
  have hi : i < names.length := by simpa [strsD] using h1
  have hv : i < vals.length := by omega
  have g := spKv_get nd (List.getElem?_eq_getElem hi) (List.getElem?_eq_getElem hv)
  simp only [strsD, List.getElem_map, pickD, numOf]
  rw [g]
theorem s1_retN {K : PySem.W.Frag} {U : Wo} {M : Hp} {te : TE} {σ : L2.St} {n : Nat} {D : Ends} {H : Hp} {d : PyData} (a : At U n M H) (h : E1N K U M te σ d) (q : ∀ v H', U.ok n H' → Same (U.view H) (U.view H') → Dd K (U.view H') v d → New U H v → D.rt v H') : tRet te D σ H :=
  h n H a _ fun v H1 ok1 s1 d1 nw => q v H1 ok1 s1 d1 nw
def YSm (CF CN : Addr) (ds : List PyData) (o : Out) : Prop := ∃ f d, ds = [f, d] ∧ ((∃ names ns, goodF f names ∧ goodN d ns ∧ o = .val (pksD (samp ns (spa names.length ns)))) ∨ (badF f ∧ o = .err CF) ∨ ∃ names, goodF f names ∧ badN d ∧ o = .err CN)
section
variable {P : Program} {w : World} {K : PySem.W.Frag} {mg : Str → Option Value} {base : Heap} {CW CF CN : Addr}
theorem ok_samples {f0 : Addr} {fd : FuncData} (F : Fun K "samples" "samples" s_samples f0 fd) (T : Blt mg) (G_spares : DefR P w K mg base (L2.CX P w) anyR "spares" 3 ["fields", "numbers"] (spY K 2 (YSp CF CN))) (G_every : Def P w K mg base "every_packet" 1 ["choices"] (spXN K 1 PEv)) :
    FnR P w K mg base (L2.CX P w) anyR 4 f0 fd ["fields", "numbers"] (spY K 2 (YSm CF CN)) := by
  refine fnR F sc_samples (fun vs H Q E h => spY_len h) (fun cdv A outer s H vs Q E hr _ h => ?_)
  obtain ⟨U, n, ds, o, ok, hd, hl, ⟨df, dn, rfl, kind⟩, q⟩ := h
  obtain ⟨v, u, rfl, hv, hu0⟩ := dd2 hd
  have hu := hu_of hr.r
  have a : At U n (U.view H) H := At.here ok
  refine ⟨_, pss_cons (ps_set (i := 2) sc_samples.nd rfl (.inr rfl) (pe_goE (E := E) G_spares hr (fun _ _ _ _ _ => trivial) (pass_on (takes_of rfl rfl rfl rfl)) (pa_cons (pv 0) (pa_cons (pv 1) pa_nil))))
        (pss_one (ps_ret (pe_go G_every hr (pa_cons (pe_lock (pe_lc (own := [("field", 3)]) (g := gName 3) (tt := tYes) rfl sc_samples.nd (pi_keys (pv 2)) (blkOk_by (N := ["fields", "numbers", "found", "field"]) (sc := defScope s_samples) (by decide +kernel)) (fun _ _ _ _ _ => (pg_name (i := 3) sc_samples.nd rfl (.inl rfl))) (fun _ _ _ _ _ => pts_nil) (te := tCB (rSrtI K) (tCons (tLst (StX.tStar K (tVar 1) (tCons (tDGet (tVar 2) (tVar 3)) tNil))) tNil)) (fun _ _ _ _ _ => (pe_callB cr_srtI (by rfl) T.sorted (by decide +kernel) (pa_cons (pe_lst (StX.pa_star (pv 1) (pa_cons (pe_dget hu (pv 2) (pv 3) (fun _ _ => rfl)) pa_nil))) pa_nil))))) pa_nil)))), ?_⟩
  have pa := a1_cons (K := K) (e1_var (U := U) (σ := start ["fields", "numbers", "found", "field"] [v, u]) (i := 0) rfl hv) (a1_cons (e1_var (i := 1) rfl hu0) a1_nil)
  rcases kind with ⟨names, ns, ⟨xs, hN, hp, hf⟩, ⟨hg, hn⟩, rfl⟩ | ⟨bad, rfl⟩ | ⟨names, ⟨xs, hN, hp, hf⟩, bad, rfl⟩
  rotate_left
  · exact s1_asgX a pa rfl ⟨df, dn, rfl, .inr (.inl ⟨bad, rfl⟩)⟩ fun H1 ok1 s1 => q H1 ok1 s1
  · exact s1_asgX a pa rfl ⟨df, dn, rfl, .inr (.inr ⟨names, ⟨xs, hN, hp, hf⟩, bad, rfl⟩)⟩ fun H1 ok1 s1 => q H1 ok1 s1
  have l3 := hN.l3
  have l8 := hg.l
  refine s1_asgY a pa rfl ⟨df, dn, rfl, .inl ⟨names, ns, ⟨xs, hN, hp, hf⟩, ⟨hg, hn⟩, rfl⟩⟩ fun v2 H1 a1 s1 d1 => ?_
  have hl2 : names.length = (spa names.length ns).length := (spa_len _ _).symm
  generalize hvals : spa names.length ns = vals at *
  cases d1 with
  | dic hq hk hvv =>
    rename_i D kvs
    have ek := dic_kvs hl2 hk hvv
    subst ek
    have lx : (strsD names).length = names.length := List.length_map ..
    refine s1_retN a1 (e1_goxN (a1_cons (e1_lock hq fun od M2 hD2 sM => E1.is (e1_lc (p := fun _ => true) (f := pickD (spKv names vals) ns) (i1_keys rfl hD2) (by rw [spKv_keys hl2, lx]; omega) (fun _ => rfl) (fun U' M' v d e hm hd => t1_yes) (fun U' M' x d e hm _ hd => ?el)) ?fin) a1_nil) rfl ⟨vals.map fun s => srtI (ns ++ [s]), by rw [List.length_map]; omega, fun c hc => ?_, rfl, ?_⟩) fun y H2 ok2 s2 d2 nw => q y H2 ok2 (s1.trans s2) d2
    case fin =>
      rw [List.filter_eq_self.mpr (fun _ _ => rfl), spKv_keys hl2, pick_all hN.nd hl2]
    case el =>
      rw [spKv_keys hl2] at hm
      obtain ⟨nm, hnm, rfl⟩ := List.mem_map.mp hm
      obtain ⟨i, hi⟩ := List.mem_iff_getElem?.mp hnm
      have lt := (List.getElem?_eq_some_iff.mp hi).1
      have hv2 : vals[i]? = some vals[i] := List.getElem?_eq_getElem (by omega)
      have g := spKv_get hN.nd hi hv2
      have hnum : numOf (spKv names vals) nm = vals[i] := by
        unfold numOf
        rw [g]
      have hu1 : Dd K M' u dn := (ints_off (hu0.same s1) hn hq).same (sM.trans e)
      have ei : intsD ns ++ [.int vals[i]] = intsD (ns ++ [vals[i]]) := by
        unfold intsD
        rw [List.map_append]
        rfl
      have l9 : (ns ++ [vals[i]]).length ≤ 9 := by
        rw [List.length_append, List.length_singleton]
        omega
      refine E1.is (e1_srtI (e1_lst (A1.is (a1_star (e1_var rfl hu1) hn (a1_cons (e1_fget rfl rfl hd (e _ _ hD2) g (.int _)) a1_nil)) ei) (by rw [intsD, List.length_map]; omega)) (.inl rfl) (by omega)) ?_
      show _ = PyData.list (intsD (srtI (ns ++ [numOf (spKv names vals) nm])))
      rw [hnum]
    · obtain ⟨s, hs, rfl⟩ := List.mem_map.mp hc
      rw [(srtI_perm _).length_eq, List.length_append, List.length_singleton]
      omega
    · unfold samp
      rw [List.foldl_map]
end
end Mw
namespace Mw
open PySem PySem.Spec PyProof.Rows L2
/-- written data, step by step -/
local macro_rules | `(tactic| walk_at "e1c") => `(tactic| repeat' (first | exact e1_int | exact e1_str | exact e1_bl | exact e1_non | exact a1_nil | refine a1_cons ?_ ?_ | exact e1_dis0 | exact e1_dis1 | refine e1_tup ?_ (by decide) | refine e1_lst ?_ (by decide) | exact e1_neg e1_int))
theorem powC {a b : Int} {C : Int → Int → Prop} {K : PySem.W.Frag} {U : Wo} {M : Hp} {σ : L2.St} (c : C a b) : E1 K U M (tOp (rI C fun i j => .int (i ^ j.toNat)) (tC (.int a)) (tC (.int b))) σ (.int (a ^ b.toNat)) := e1_op e1_int e1_int (r1_I c)
def frameS : List Str := ["a", "at", "ab", "b", "dst", "note", "marks", "zz", "zzzzzz", "zzzzzy", "drops", "passes"]
section
variable {K : PySem.W.Frag}
theorem cut_to {ds : List PyData} {j : Int} (h : 0 ≤ j) : cutD ds none (some j) = ds.take j.toNat := by
  obtain ⟨k, rfl⟩ : ∃ k : Nat, j = k := ⟨j.toNat, by omega⟩
  unfold cutD
  rw [HT.sIx_none, HT.sIx_nat, Int.toNat_natCast, Nat.sub_zero, List.drop_zero]
  by_cases h : k ≤ ds.length
  · rw [Nat.min_eq_left h]
  · rw [Nat.min_eq_right (by omega), List.take_of_length_le (Nat.le_refl _), List.take_of_length_le (by omega)]
/-- the first so many, drawn -/
theorem e3_slTo {U : Wo} {M : Hp} {σ : L2.St} {te ta : TE} {k1 k2 : Nat} {Pe : List PyData → Prop} {Pj : Int → Prop} (h : E3 K U M k1 te σ (fun d => ∃ es, d = .list es ∧ Pe es)) (hj : E3 K U M k2 ta σ (fun d => ∃ j, d = .int j ∧ Pj j)) (j0 : ∀ j, Pj j → 0 ≤ j) :
    E3 K U M (k1 + k2) (tSl (rSlL K) te tNoPart (tPart ta)) σ (fun d => ∃ es j, Pe es ∧ Pj j ∧ d = .list (es.take j.toNat)) := fun n H a hn Q q => h n H a (by omega) _ fun v d H1 r1 ok1 s1 d1 => by
  obtain ⟨es, rfl, pe⟩ := r1
  refine hj (n + k1) H1 ⟨ok1, a.up.trans s1⟩ (by omega) _ fun u e H2 r2 ok2 s2 d2 => ?_
  obtain ⟨j, rfl, pj⟩ := r2
  cases d2
  cases d1 with
  | lst hq ha =>
    refine ⟨j, rfl, _, _, rfl, .inl (.inl (U.le _ _ _ (s2 _ _ hq))), fun p np => ?_⟩
    obtain ⟨ok3, s3, f3, _⟩ := U.new ok2 np rfl
    refine q _ _ _ ⟨es, j, pe, pj, rfl⟩ (by rw [← Nat.add_assoc]; exact ok3) ((s1.trans s2).trans s3) (.lst f3 ?_)
    rw [← cut_to (j0 j pj)]
    exact ((ha.cut none (some j)).same s2).same s3
end
theorem e3_srtS {U : Wo} {M : Hp} {σ : L2.St} {te : TE} {K : PySem.W.Frag} {k : Nat} {Px : List Str → Prop} (h : E3 K U M k te σ (fun d => ∃ xs : List Str, d = .list (strsD xs) ∧ Px xs)) (hl : ∀ xs, Px xs → xs.length < 64) :
    E3 K U M k (tCB (rSrtS K) (tCons te tNil)) σ (fun e => ∃ xs ys : List Str, Px xs ∧ ys.Perm xs ∧ sortedS ys = true ∧ e = .list (strsD ys)) := fun n H a hn Q q => h n H a hn _ fun v d H1 r ok1 s1 d1 => by
  obtain ⟨xs, rfl, px⟩ := r
  cases d1 with
  | lst hq ha =>
    have e1 := vals_str ha
    subst e1
    refine ⟨_, xs, rfl, .inl (.inl (.inl (U.le _ _ _ hq))), hl xs px, fun ys p hp hs np => ?_⟩
    obtain ⟨ok2, s2, f2, _⟩ := U.new (o := .lst (ys.map V.str)) ok1 np rfl
    exact q _ _ _ ⟨xs, ys, px, hp, hs, rfl⟩ ok2 (s1.trans s2) (.lst f2 (str_vals ys))
section
variable {K : PySem.W.Frag}
/-- three entries under texts -/
theorem e1_dis3 {U : Wo} {M : Hp} {σ : L2.St} {x1 x2 x3 : Str} {t1 t2 t3 : TE} {d1 d2 d3 : PyData} (n1 : (x1 == x2) = false) (n2 : (x1 == x3) = false) (n3 : (x2 == x3) = false)
    (h1 : ∀ (U' : Wo) M', Same M M' → E1 K U' M' t1 σ d1) (h2 : ∀ (U' : Wo) M', Same M M' → E1 K U' M' t2 σ d2) (h3 : ∀ (U' : Wo) M', Same M M' → E1 K U' M' t3 σ d3) :
    E1 K U M (tDisp [(tC (.str x1), t1), (tC (.str x2), t2), (tC (.str x3), t3)]) σ (.dict [(.str x1, d1), (.str x2, d2), (.str x3, d3)]) := fun n H a Q q p np => by
  have off : Same (U.view H) (hideV p (U.view (upd H p (.dK [])))) := fun b o e => by
    obtain ⟨_, s2, _, _⟩ := U.new (o := .dK []) a.ok np rfl
    refine hide_at (s2 _ _ e) (fun z => ?_)
    rw [z] at e
    rw [U.le _ _ _ e] at np
    cases np
  obtain ⟨ok2, s2, f2, _⟩ := U.new (o := .dK []) a.ok np rfl
  have a2 : At (U.hide p (.dK [])) n (U.view H) (upd H p (.dK [])) := ⟨⟨ok2, f2⟩, off⟩
  refine h1 (U.hide p (.dK [])) (U.view H) a.up n _ a2 _ fun v1 H1 ok3 s3 e1 => ?_
  refine h2 (U.hide p (.dK [])) (U.view H) a.up n _ (a2.step ok3 s3) _ fun v2 H4 ok4 s4 e2 => ?_
  refine h3 (U.hide p (.dK [])) (U.view H) a.up n _ ((a2.step ok3 s3).step ok4 s4) _ fun v3 H5 ok5 s5 e3 => ?_
  refine ⟨U.le _ _ _ ok5.2, [(.inr x1, v1), (.inr x2, v2), (.inr x3, v3)], rfl, (show 3 ≤ 15 by decide), ?_⟩
  have m : mergeK [] [((.inr x1 : Key), v1), (.inr x2, v2), (.inr x3, v3)] = [(.inr x1, v1), (.inr x2, v2), (.inr x3, v3)] := by
    have k1 : (Sum.inr x1 : Key) ≠ .inr x2 := fun z => by
      rw [Sum.inr.inj z] at n1
      simp at n1
    have k2 : (Sum.inr x1 : Key) ≠ .inr x3 := fun z => by
      rw [Sum.inr.inj z] at n2
      simp at n2
    have k3 : (Sum.inr x2 : Key) ≠ .inr x3 := fun z => by
      rw [Sum.inr.inj z] at n3
      simp at n3
    simp [mergeK, putK, k1, k2, k3]
  rw [m]
  obtain ⟨ok6, f6, o6⟩ := U.own (o := .dK [((.inr x1 : Key), v1), (.inr x2, v2), (.inr x3, v3)]) ok5.1 ok5.2 rfl
  have k6 : Same (hideV p (U.view H5)) (U.view (upd H5 p (.dK [((.inr x1 : Key), v1), (.inr x2, v2), (.inr x3, v3)]))) := fun b u e => o6 b u (hide_of e).1 (hide_of e).2
  exact q _ _ ok6 (off.trans ((s3.trans (s4.trans s5)).trans k6)) (.dic (ps := [(.str x1, d1), (.str x2, d2), (.str x3, d3)]) f6 (.cons (.str _) (.cons (.str _) (.cons (.str _) .nil))) (.cons ((e1.same (s4.trans s5)).same k6) (.cons ((e2.same s5).same k6) (.cons (e3.same k6) .nil))))
theorem e1_dget1 {U : Wo} {M : Hp} {σ : L2.St} {te : TE} {x : Str} {d : PyData} {ps : List (PyData × PyData)} (h : E1 K U M te σ (.dict ((.str x, d) :: ps))) : E1 K U M (tDGet te (tC (.str x))) σ d := fun n H a Q q => h n H a _ fun v H1 ok1 s1 d1 => by
  cases d1 with
  | dic hq hk hv =>
    rename_i a kvs
    cases kvs with
    | nil => cases hk
    | cons kv kvs =>
      obtain ⟨k, y⟩ := kv
      cases hk with
      | cons k1 k2 =>
        cases hv with
        | cons v1 v2 =>
          have e : k = .inr x := by
            cases k with
            | inl i => cases k1
            | inr z =>
              cases k1
              rfl
          subst e
          refine ⟨_, y, rfl, ?_, q _ H1 ok1 s1 v1⟩
          have g := DGet.k (k := (Sum.inr x : Key)) (U.le _ _ _ hq)
          rw [valV_pos rfl] at g
          exact g
end
section
variable {P : Program} {w : World} {K : PySem.W.Frag} {mg : Str → Option Value} {base : Heap}
def shortT : PyData → Bool
  | .tuple ts => decide (ts.length ≤ 100)
  | _ => true
def OddD (d : PyData) : Prop := okd 6 2000 d = true ∧ shortT d = true
def oddA : List PyData := [.none, .bool true, .int (-1), .str "pass", .str "", .str "mark", .tuple [], .tuple [.none], .tuple [.str "pas"], .tuple [.str "is", .str "a"], .tuple [.str "mark", .int 1], .list [], .dict []]
def oddB : List PyData := [.tuple [.str "row", .tuple [.str "pass"]], .tuple [.str "not", .tuple [.str "mark"]], .tuple [.str "set", .str "A", .int 1], .tuple [.str "take", .str "a", .str "a"], .list [.str "pass"], .dict [(.str "a", .int 1)]]
def oddC : List PyData := [.tuple [.str "loop"], .tuple [.int (-1), .int 0], .tuple [.bool true, .int 1], .int (10 ^ 40 + 7), .str "a=1", .tuple [.str "is", .str "pass", .int 1]]
abbrev spOdd (K : PySem.W.Frag) : Sp := spD K 0 1 (fun _ => True) (fun _ d => OddD d)
theorem nice_of {ds : List PyData} (h : ds.all (fun d => okd 6 2000 d && shortT d) = true) : ∀ d ∈ ds, OddD d := fun d hd => by
  have := List.all_eq_true.mp h d hd
  rw [Bool.and_eq_true] at this
  exact this
theorem ok_odd {f : Addr} {fd : FuncData} (F : Fun K "_law_odd" "_law_odd" s__law_odd f fd) (T : Blt mg) (G__law_pick : Def P w K mg base "_law_pick" 3 ["state", "some"] (spPick K)) : FnG P w K mg base 4 f fd ["state"] (spOdd K) := by
  refine fnG F sc__law_odd (fun vs H Q E h => spD_len h) (fun cdv A outer s H vs Q E hr h => ?_)
  obtain ⟨U, W, n, ws, ds, o, rfl, ok, hn, hd, hl, _, q⟩ := h
  obtain rfl : ds = [] := List.length_eq_zero_iff.mp hl
  cases hd
  have a : At U n (U.view H) H := At.here ok
  refine ⟨_, pss_cons (ps_set (i := 1) sc__law_odd.nd rfl (.inl rfl) (pe_lst (pa_cons pe_non (pa_cons pe_bl (pa_cons (pe_un un_neg pe_int) (pa_cons pe_str (pa_cons pe_str (pa_cons pe_str (pa_cons (pe_tup pa_nil) (pa_cons (pe_tup (pa_cons pe_non pa_nil)) (pa_cons (pe_tup (pa_cons pe_str pa_nil)) (pa_cons (pe_tup (pa_cons pe_str (pa_cons pe_str pa_nil))) (pa_cons (pe_tup (pa_cons pe_str (pa_cons pe_int pa_nil))) (pa_cons (pe_lst pa_nil) (pa_cons pe_dnewK pa_nil)))))))))))))))
        (pss_cons (ps_set (i := 1) sc__law_odd.nd rfl (.inl rfl) (pe_op op_cat (pv 1) (pe_lst (pa_cons (pe_tup (pa_cons pe_str (pa_cons (pe_tup (pa_cons pe_str pa_nil)) pa_nil))) (pa_cons (pe_tup (pa_cons pe_str (pa_cons (pe_tup (pa_cons pe_str pa_nil)) pa_nil))) (pa_cons (pe_tup (pa_cons pe_str (pa_cons pe_str (pa_cons pe_int pa_nil)))) (pa_cons (pe_tup (pa_cons pe_str (pa_cons pe_str (pa_cons pe_str pa_nil)))) (pa_cons (pe_lst (pa_cons pe_str pa_nil)) (pa_cons (pe_disp (pps_cons pe_str pe_int pps_nil) (by rfl) (by rfl) (fun z => by cases z) (by decide)) pa_nil)))))))))
        (pss_one (ps_ret (pe_go G__law_pick hr (pa_cons (pv 0) (pa_cons (pe_op op_cat (pv 1) (pe_lst (pa_cons (pe_tup (pa_cons pe_str pa_nil)) (pa_cons (pe_tup (pa_cons (pe_un un_neg pe_int) (pa_cons pe_int pa_nil))) (pa_cons (pe_tup (pa_cons pe_bl (pa_cons pe_int pa_nil))) (pa_cons (pe_op op_add (pe_op op_pow pe_int pe_int) pe_int) (pa_cons pe_str (pa_cons (pe_tup (pa_cons pe_str (pa_cons pe_str (pa_cons pe_int pa_nil)))) pa_nil)))))))) pa_nil)))))), ?_⟩
  refine s1_asg (K := K) (d := .list oddA) a (by unfold oddA; walk_at "e1c") fun v1 H1 a1 s1 d1 => ?_
  refine s1_asg (K := K) (d := .list (oddA ++ oddB)) a1 (e1_op (e1_var rfl d1) (d2 := .list oddB) (by unfold oddB; walk_at "e1c") (r1_cat (by decide))) fun v2 H2 a2 s2 d2 => ?_
  refine s3_ret a2 hn (e3_pick o rfl (E1.e3 (d := .list ((oddA ++ oddB) ++ oddC)) (e1_op (e1_var rfl d2) (d2 := .list oddC) ?_ (r1_cat (by decide))) ⟨_, .inl rfl, by decide, by decide, nice_of (by decide +kernel)⟩)) fun v d H3 r ok3 s3 d3 => q v d H3 r ok3 ((s1.trans s2).trans s3) d3
  unfold oddC
  refine e1_lst ?_ (by decide)
  refine a1_cons (by walk_at "e1c") (a1_cons (by walk_at "e1c") (a1_cons (by walk_at "e1c") (a1_cons ?_ (by walk_at "e1c"))))
  exact E1.is (e1_op (powC ⟨by decide, by decide, by decide⟩) e1_int r1_int) (congrArg PyData.int (by decide +kernel))
def FrameD (d : PyData) : Prop := ∃ (names : List Str) (e : PyData), d = .dict [(.str "fields", .tuple (strsD names)), (.str "numbers", e), (.str "marks", .int 0)] ∧ Nm names
abbrev spFrame (K : PySem.W.Frag) : Sp := spD K 1 20 (fun ds => ∃ u : Int, ds = [.int u] ∧ 1 ≤ u ∧ u ≤ 3) (fun _ d => FrameD d)
theorem ok_frame {f : Addr} {fd : FuncData} (F : Fun K "_law_frame" "_law_frame" s__law_frame f fd) (T : Blt mg) (G__law_take : Def P w K mg base "_law_take" 2 ["state", "size"] spTake) (G__law_shuffled : Def P w K mg base "_law_shuffled" 3 ["state", "some"] (spShuf K)) :
    FnG P w K mg base 4 f fd ["state", "upto"] (spFrame K) := by
  refine fnG F sc__law_frame (fun vs H Q E h => spD_len h) (fun cdv A outer s H vs Q E hr h => ?_)
  obtain ⟨U, W, n, ws, ds, o, rfl, ok, hn, hd, hl, hp, q⟩ := h
  obtain ⟨u, rfl, u1, u3⟩ := hp
  obtain ⟨v, rfl, hv⟩ := dd1 hd
  have a : At U n (U.view H) H := At.here ok
  refine ⟨_, pss_cons (ps_set (i := 2) sc__law_frame.nd rfl (.inl rfl) (pe_lst (pa_cons pe_str (pa_cons pe_str (pa_cons pe_str (pa_cons pe_str (pa_cons pe_str (pa_cons pe_str (pa_cons pe_str (pa_cons pe_str (pa_cons pe_str (pa_cons pe_str (pa_cons pe_str (pa_cons pe_str pa_nil))))))))))))))
        (pss_cons (ps_set (i := 3) sc__law_frame.nd rfl (.inl rfl) (pe_callB cr_srtS (by rfl) T.sorted (by decide +kernel) (pa_cons (pe_slice sl_list (pe_go G__law_shuffled hr (pa_cons (pv 0) (pa_cons (pv 2) pa_nil))) po_none (po_some (pe_op op_add pe_int (pe_go G__law_take hr (pa_cons (pv 0) (pa_cons (pv 1) pa_nil)))))) pa_nil)))
        (pss_cons (ps_set (i := 4) sc__law_frame.nd rfl (.inl rfl) (pe_slice sl_list (pe_go G__law_shuffled hr (pa_cons (pv 0) (pa_cons (pe_lst (pa_cons pe_int (pa_cons pe_int (pa_cons pe_int (pa_cons pe_int (pa_cons pe_int (pa_cons (pe_op op_pow pe_int pe_int) pa_nil))))))) pa_nil))) po_none (po_some (pe_op op_add pe_int (pe_go G__law_take hr (pa_cons (pv 0) (pa_cons pe_int pa_nil)))))))
        (pss_one (ps_ret (pe_disp (pps_cons pe_str (pe_callTy call_tuple_of (by rfl) T.tuple (by decide +kernel) (pa_cons (pv 3) pa_nil)) (pps_cons pe_str (pv 4) (pps_cons pe_str pe_int pps_nil))) (by rfl) (by rfl) (fun z => by cases z) (by decide)))))), ?_⟩
  refine s1_asg (K := K) (d := .list (strsD frameS)) a (by unfold frameS; walk_at "e1c") fun v1 H1 a1 s1 d1 => ?_
  have hv1 := hv.same s1
  have addC : ∀ {U : Wo} {M : Hp} {σ : L2.St} {te : TE} {z : Int}, E3 K U M 1 te σ (fun d => ∃ j : Int, d = .int j ∧ 0 ≤ j ∧ j < z) → E3 K U M 1 (tOp (rI0 fun i j => .int (i + j)) (tC (.int 1)) te) σ (fun d => ∃ j : Int, d = .int j ∧ 1 ≤ j ∧ j ≤ z) := fun {U M σ te z} h => by
    refine E3.weak (e3_op2 (f := fun d => match d with | .int i => .int (1 + i) | _ => .none) e1_int h (fun d ⟨j, e, _⟩ => ?_)) (fun d ⟨e, ⟨j, e1, j0, j1⟩, e2⟩ => ?_)
    · subst e
      exact r1_int
    · subst e1
      exact ⟨1 + j, e2, by omega, by omega⟩
  refine s3_asg (k := 12 + 1) a1 (by omega) (e3_srtS (Px := fun xs => 1 ≤ xs.length ∧ xs.length ≤ 3 ∧ xs.Nodup ∧ ∀ x ∈ xs, x ∈ frameS) (E3.weak (e3_slTo (e3_shuf o rfl (e1_var rfl d1) (.inl rfl) (by decide) (by decide +kernel)) (addC (e3_take o rfl (e1_var rfl hv1) (by omega) (by omega))) (fun j pj => by omega)) ?g1) (fun xs px => by omega)) fun v2 d2 H2 r2 a2 s2 e2 => ?_
  case g1 =>
    rintro d ⟨es, j, pe, ⟨j1, j2⟩, rfl⟩
    obtain ⟨xs, px, rfl⟩ := perm_mapG PyData.str pe (l := frameS) rfl
    have hl : xs.length = 12 := px.length_eq
    have nd : xs.Nodup := px.nodup_iff.mpr (by decide +kernel)
    refine ⟨xs.take j.toNat, by rw [strsD, List.map_take], ?_, ?_, nd.sublist (List.take_sublist _ _), fun x hx => px.mem_iff.mp (List.mem_of_mem_take hx)⟩
    · rw [List.length_take]
      omega
    · rw [List.length_take]
      omega
  obtain ⟨xs, ys, ⟨x1, x3, xn, xm⟩, hp, hsrt, rfl⟩ := r2
  refine s3_asg (k := 6 + 1) (R := fun d => True) a2 (by omega) (E3.weak (e3_slTo (e3_shuf (ds := [.int 0, .int 1, .int 2, .int 3, .int 7, .int (10 ^ 12)]) o rfl (e1_lst (a1_cons e1_int (a1_cons e1_int (a1_cons e1_int (a1_cons e1_int (a1_cons e1_int (a1_cons (E1.is (powC ⟨by decide, by decide, by decide⟩) (congrArg PyData.int (by decide +kernel))) a1_nil)))))) (by decide)) (.inl rfl) (by decide) (by decide +kernel)) (addC (z := 3) (e3_take o rfl e1_int (by decide) (by decide))) (fun j pj => by omega)) fun _ _ => trivial) fun v3 d3 H3 r3 a3 s3 e3 => ?_
  refine s3_ret (k := 0) a3 (by omega) (E1.e3 (d := .dict [(.str "fields", .tuple (strsD ys)), (.str "numbers", d3), (.str "marks", .int 0)]) (e1_dis3 (by decide) (by decide) (by decide) (fun U' M' e => e1_tuple (e1_var rfl ((e2.same s3).same e)) (.inl rfl)) (fun U' M' e => e1_var rfl (e3.same e)) (fun U' M' e => e1_int)) rfl) fun v4 d4 H4 r4 ok4 s4 e4 => ?_
  subst r4
  have my : ∀ x ∈ ys, x ∈ univ := fun x hx => by
    have := xm x (hp.mem_iff.mp hx)
    exact (show ∀ x ∈ frameS, x ∈ univ by decide +kernel) x this
  exact q v4 _ H4 ⟨ys, d3, rfl, by rw [hp.length_eq]; exact x1, by rw [hp.length_eq]; exact x3, hp.nodup_iff.mpr xn, my, sortedS_rank rk_lt my hsrt⟩ ok4 (((s1.trans s2).trans s3).trans s4) e4
end
end Mw
namespace Mw
open PySem PySem.Spec PyProof.Rows L2
local macro_rules | `(tactic| walk_at "e1c") => `(tactic| repeat' (first | exact e1_int | exact e1_str | exact e1_bl | exact e1_non | exact a1_nil | refine a1_cons ?_ ?_ | exact e1_dis0 | exact e1_dis1 | refine e1_tup ?_ (by decide) | refine e1_lst ?_ (by decide) | exact e1_neg e1_int))
/-! ### values near to lists of fields, of numbers -/
def laidD : PyData → Bool
  | .str x => decide (x.length ≤ 100000) && PyData.strOk x
  | _ => true
def inUniv : PyData → Bool
  | .str x => decide (x ∈ univ)
  | _ => false
def fnB (d : PyData) : Bool := okd 2 64 d && (shortD d && (laidD d && (!isFieldD d || inUniv d)))
def smallB : PyData → Bool
  | .int x => decide (x ≤ 10 ^ 12)
  | _ => false
def nnB (d : PyData) : Bool := okd 2 64 d && (!isCountD d || smallB d)
def NF (d : PyData) : Prop := (∃ ds, bothD d ds ∧ ds.length ≤ 8 ∧ ds.all fnB = true) ∨ (isLstD d = false ∧ okd 3 800 d = true)
def NN (d : PyData) : Prop := (∃ ds, bothD d ds ∧ ds.length ≤ 12 ∧ ds.all nnB = true) ∨ (isLstD d = false ∧ okd 3 800 d = true)
theorem univ_fn : ∀ x ∈ univ, fnB (.str x) = true := by decide +kernel
theorem all_of {p : PyData → Bool} {ds es : List PyData} (h : ds.all p = true) (hs : ∀ e ∈ es, e ∈ ds) : es.all p = true := List.all_eq_true.mpr fun e he => List.all_eq_true.mp h e (hs e he)
section
variable {K : PySem.W.Frag} {U : Wo} {W : Wd} {M : Hp} {σ : L2.St} {te ta : TE}
theorem e1_slFrom {ds : List PyData} {j : Nat} (h : E1 K U M te σ (.list ds)) (hj : E1 K U M ta σ (.int j)) : E1 K U M (tSl (rSlL K) te (tPart ta) tNoPart) σ (.list (ds.drop j)) := fun n H a Q q => h n H a _ fun v H1 ok1 s1 d1 =>
  hj n H1 (a.step ok1 s1) _ fun u H2 ok2 s2 d2 => by
    cases d2
    cases d1 with
    | lst hq ha =>
      refine ⟨_, rfl, _, _, rfl, .inl (.inl (U.le _ _ _ (s2 _ _ hq))), fun p np => ?_⟩
      obtain ⟨ok3, s3, f3, _⟩ := U.new ok2 np rfl
      refine q _ _ ok3 ((s1.trans s2).trans s3) (.lst f3 ?_)
      have e : cutD ds (some (j : Int)) none = ds.drop j := by
        unfold cutD
        rw [HT.sIx_none, HT.sIx_nat]
        by_cases h : j ≤ ds.length
        · rw [Nat.min_eq_left h, List.take_of_length_le (by rw [List.length_drop]; exact Nat.le_refl _)]
        · rw [Nat.min_eq_right (by omega), Nat.sub_self, List.take_zero, List.drop_eq_nil_of_le (by omega)]
      rw [← e]
      exact ((ha.cut (some (j : Int)) none).same s2).same s3
/-- one number put into a dict of its own -/
theorem e1_disI {i j : Int} : E1 K U M (tDisp [(tC (.int i), tC (.int j))]) σ (.dict [(.int i, .int j)]) := fun n H a Q q p np => by
  obtain ⟨ok2, s2, f2, _⟩ := U.new (o := .dK []) a.ok np rfl
  obtain ⟨ok3, f3, o3⟩ := U.own (o := .dK [(.inl i, .int j)]) ok2 f2 rfl
  refine ⟨upd_same, [(.inl i, .int j)], rfl, (show 1 ≤ 15 by decide), ?_⟩
  refine q _ _ ok3 (fun b u e => o3 b u (fun z => ?_) (s2 _ _ e)) (.dic (ps := [(.int i, .int j)]) f3 (.cons (.int i) .nil) (.cons (.int j) .nil))
  rw [z] at e
  rw [U.le _ _ _ e] at np
  cases np
end
/-- list(x), x drawn -/
theorem e3_listH {K : PySem.W.Frag} {U : Wo} {M : Hp} {σ : L2.St} {te : TE} {k : Nat} {S : List PyData → Prop} (h : E3 K U M k te σ (fun d => ∃ ds, bothD d ds ∧ S ds)) : E3 K U M k (tCB (fun xs H Q => ∃ p ys, xs = [.ref p] ∧ (SqL K H p ys ∨ SqT K H p ys) ∧ ∀ l, H l = none → Q (.ref l) (upd H l (.lst ys))) (tCons te tNil)) σ (fun d => ∃ ds, d = .list ds ∧ S ds) := fun n H a hn Q q => h n H a hn _ fun v d H1 r ok1 s1 d1 => by
  obtain ⟨ds, hd, hs⟩ := r
  rcases hd with rfl | rfl
  · cases d1 with
    | lst hq ha =>
      refine ⟨_, _, rfl, .inl (.inl (.inl (U.le _ _ _ hq))), fun l nl => ?_⟩
      obtain ⟨ok2, s2, f2, _⟩ := U.new (o := .lst _) ok1 nl rfl
      exact q _ _ _ ⟨ds, rfl, hs⟩ ok2 (s1.trans s2) (.lst f2 (ha.same s2))
  · cases d1 with
    | tup hq ha =>
      refine ⟨_, _, rfl, .inr (seqT (U.le _) hq), fun l nl => ?_⟩
      obtain ⟨ok2, s2, f2, _⟩ := U.new (o := .lst _) ok1 nl rfl
      exact q _ _ _ ⟨ds, rfl, hs⟩ ok2 (s1.trans s2) (.lst f2 (ha.same s2))
/-- two drawn numbers -/
theorem s3_par2 {K : PySem.W.Frag} {U : Wo} {M : Hp} {σ : L2.St} {n k1 k2 i j : Nat} {ta tb : TE} {R S : PyData → Prop} {D : Ends} {H : Hp} (a : At U n M H) (hn : n + (k1 + k2) ≤ most) (h1 : E3 K U M k1 ta σ R) (h2 : E3 K U M k2 tb σ S)
    (q : ∀ v w d e H', R d → S e → At U (n + (k1 + k2)) (U.view H') H' → Same (U.view H) (U.view H') → Dd K (U.view H') v d → Dd K (U.view H') w e → D.nx ((σ.set i (some v)).set j (some w)) H') : tPar i j (tCons ta (tCons tb tNil)) D σ H :=
  h1 n H a (by omega) _ fun v d H1 r1 ok1 s1 d1 => h2 (n + k1) H1 ⟨ok1, a.up.trans s1⟩ (by omega) _ fun w e H2 r2 ok2 s2 d2 => ⟨v, w, rfl, q v w d e H2 r1 r2 (At.here (by rw [← Nat.add_assoc]; exact ok2)) (s1.trans s2) (d1.same s2) d2⟩
section
variable {P : Program} {w : World} {K : PySem.W.Frag} {mg : Str → Option Value} {base : Heap}
abbrev spNF (K : PySem.W.Frag) : Sp := spD K 0 40 (fun _ => True) (fun _ d => NF d)
abbrev spNN (K : PySem.W.Frag) : Sp := spD K 0 40 (fun _ => True) (fun _ d => NN d)
def picksF : List PyData := [.str "pass", .str "A", .str "zzzzzzz", .none, .int 5, .list [.str "a"], .str "", .str "q", .dict [], .tuple [.str "a"]]
def picksW : List PyData := [.none, .str "a", .dict [(.str "a", .int 1)], .int 5, .str "ab", .bool true]
def picksN : List PyData := [.int (-1), .bool true, .none, .str "1", .tuple [.int 1], .list [.int 2], .int 0, .int 3]
def picksX : List PyData := [.none, .int 5, .str "12", .dict [(.int 0, .int 1)], .bool true]
theorem ok_nearF {f : Addr} {fd : FuncData} (F : Fun K "_law_near_fields" "_law_near_fields" s__law_near_fields f fd) (T : Blt mg) (G_take : Def P w K mg base "_law_take" 2 ["state", "size"] spTake) (G_pick : Def P w K mg base "_law_pick" 3 ["state", "some"] (spPick K)) (G_frame : Def P w K mg base "_law_frame" 4 ["state", "upto"] (spFrame K)) :
    FnG P w K mg base 5 f fd ["state"] (spNF K) := by
  refine fnG F sc__law_near_fields (fun vs H Q E h => spD_len h) (fun cdv A outer s H vs Q E hr h => ?_)
  obtain ⟨U, W, n, ws, ds, o, rfl, ok, hn, hd, hl, _, q⟩ := h
  obtain rfl : ds = [] := List.length_eq_zero_iff.mp hl
  cases hd
  have hu := hu_of hr.r
  have a : At U n (U.view H) H := At.here ok
  refine ⟨_, pss_cons (ps_set (i := 1) sc__law_near_fields.nd rfl (.inl rfl) (pe_callTy call_list_of (by rfl) T.list (by decide +kernel) (pa_cons (pe_dget hu (pe_go G_frame hr (pa_cons (pv 0) (pa_cons pe_int pa_nil))) pe_str (fun _ _ => rfl)) pa_nil)))
        (pss_cons (ps_for PassesOwn.never rfl (pi_range1 (by rfl) T.range (pa_cons (pe_go G_pick hr (pa_cons (pv 0) (pa_cons (pe_lst (pa_cons pe_int (pa_cons pe_int (pa_cons pe_int (pa_cons pe_int (pa_cons pe_int pa_nil)))))) pa_nil))) pa_nil)) (pg_name (i := 2) sc__law_near_fields.nd rfl (.inl rfl))
        (pss_cons (ps_par (i := 3) (j := 4) rfl sc__law_near_fields.nd rfl rfl (by decide) rfl rfl (pa_cons (pe_go G_take hr (pa_cons (pv 0) (pa_cons (pe_op op_add (pe_callB call_len (by rfl) T.len (by decide +kernel) (pa_cons (pv 1) pa_nil)) pe_int) pa_nil))) (pa_cons (pe_go G_take hr (pa_cons (pv 0) (pa_cons pe_int pa_nil))) pa_nil)) (by rfl))
          (pss_cons (ps_if (pt_cmpR op_eq (pv 4) pe_int (nomark _))
          (pss_cons (ps_set (i := 5) sc__law_near_fields.nd rfl (.inl rfl) (pe_go G_pick hr (pa_cons (pv 0) (pa_cons (pe_lst (pa_cons pe_str (pa_cons pe_str (pa_cons pe_str (pa_cons pe_non (pa_cons pe_int (pa_cons (pe_lst (pa_cons pe_str pa_nil)) (pa_cons pe_str (pa_cons pe_str (pa_cons pe_dnewK (pa_cons (pe_tup (pa_cons pe_str pa_nil)) pa_nil))))))))))) pa_nil))))
            (pss_one (ps_set (i := 1) sc__law_near_fields.nd rfl (.inl rfl) (pe_op op_cat (pe_op op_cat (pe_slice sl_list (pv 1) po_none (po_some (pv 3))) (pe_lst (pa_cons (pv 5) pa_nil))) (pe_slice sl_list (pv 1) (po_some (pv 3)) po_none)))))
          pss_nil)
          (pss_cons (ps_if (pt_cmpR op_eq (pv 4) pe_int (nomark _))
          (pss_one (ps_set (i := 1) sc__law_near_fields.nd rfl (.inl rfl) (pe_op op_cat (pe_slice sl_list (pv 1) po_none (po_some (pv 3))) (pe_slice sl_list (pv 1) (po_some (pe_op op_add (pv 3) pe_int)) po_none))))
          pss_nil)
          (pss_one (ps_if (pt_cmpR op_eq (pv 4) pe_int (nomark _))
          (pss_one (ps_set (i := 1) sc__law_near_fields.nd rfl (.inl rfl) (pe_op op_cat (pv 1) (pe_slice sl_list (pv 1) po_none (po_some pe_int)))))
          pss_nil))))))
        (pss_one (ps_ret (pe_go G_pick hr (pa_cons (pv 0) (pa_cons (pe_lst (pa_cons (pv 1) (pa_cons (pe_callTy call_tuple_of (by rfl) T.tuple (by decide +kernel) (pa_cons (pv 1) pa_nil)) (pa_cons (pv 1) (pa_cons (pe_go G_pick hr (pa_cons (pv 0) (pa_cons (pe_lst (pa_cons pe_non (pa_cons pe_str (pa_cons (pe_disp (pps_cons pe_str pe_int pps_nil) (by rfl) (by rfl) (fun z => by cases z) (by decide)) (pa_cons pe_int (pa_cons pe_str (pa_cons pe_bl pa_nil))))))) pa_nil))) pa_nil))))) pa_nil)))))), ?_⟩
  refine s3_asg (K := K) (k := 20) (R := fun d => ∃ ds, d = .list ds ∧ ds.length ≤ 3 ∧ ds.all fnB = true) a (by omega) (e3_listH (S := fun ds => ds.length ≤ 3 ∧ ds.all fnB = true) (e3_dgetH (E3.weak (e3_god (m := 1) o rfl (a1_cons e1_int a1_nil) rfl ⟨3, rfl, by decide, by decide⟩) ?g1))) fun v1 d1 H1 r1 a1 s1 e1 => ?_
  case g1 =>
    rintro d ⟨names, e, hd, hN⟩
    refine ⟨_, _, hd, _, .inr rfl, by rw [strsD, List.length_map]; exact hN.l3, ?_⟩
    rw [List.all_eq_true]
    intro d hd
    obtain ⟨x, hx, rfl⟩ := List.mem_map.mp hd
    exact univ_fn x (hN.mem x hx)
  obtain ⟨ds1, rfl, l1, f1⟩ := r1
  refine s3_for (K := K) (k0 := 0 + 1) (k := 3) (m := 2) a1 (by omega) (i3_rng (P := fun j => 0 ≤ j ∧ j ≤ 2) (E3.weak (e3_pick (k := 0) (R := fun d => ∃ j : Int, d = .int j ∧ 0 ≤ j ∧ j ≤ 2) o rfl (E1.e3 (d := .list [.int 0, .int 0, .int 1, .int 1, .int 2]) (e1_lst (a1_cons e1_int (a1_cons e1_int (a1_cons e1_int (a1_cons e1_int (a1_cons e1_int a1_nil))))) (by decide)) ⟨_, .inl rfl, by decide, by decide, ?g2⟩)) (fun d ⟨j, e, j0, j2⟩ => ⟨j, e, ⟨j0, j2⟩, by omega, by omega⟩))) ?g3
    (fun i σ' H' => ∃ (v : V) (ds : List PyData) (x2 x3 x4 x5 : Option V), σ' = [some (.ref W.d), some v, x2, x3, x4, x5] ∧ Dd K (U.view H') v (.list ds) ∧ ds.length ≤ 3 + i ∧ ds.all fnB = true) (fun H' s' => ⟨v1, ds1, _, _, _, _, rfl, e1.same s', l1, f1⟩) ?hs ?hd
  case g2 =>
    intro e he
    simp only [List.mem_cons, List.not_mem_nil, or_false] at he
    rcases he with rfl | rfl | rfl | rfl | rfl <;> exact ⟨_, rfl, by decide, by decide⟩
  case g3 =>
    rintro ds ⟨j, ⟨j0, j2⟩, rfl⟩
    rw [List.length_map, List.length_range]
    omega
  case hs =>
    rintro i n' σ' H2 vc dc N hi hn' ⟨v, ds, x2, x3, x4, x5, rfl, dv, ll, fl⟩ a2 s2 dc2 hN
    refine s3_par2 (K := K) (k1 := 1) (k2 := 1) (At.here a2.ok) (by omega) (e3_take (z := (ds.length : Int) + 1) o rfl (e1_op (e1_len (e1_var rfl dv) rfl (by omega)) e1_int r1_int) (by omega) (by omega)) (e3_take (z := 3) o rfl e1_int (by decide) (by decide)) fun v3 v4 d3 d4 H3 r3 r4 a3 s3 e3 e4 => ?_
    obtain ⟨j, rfl, j0, j1⟩ := r3
    obtain ⟨t, rfl, t0, t1⟩ := r4
    obtain ⟨j, rfl⟩ : ∃ j' : Nat, j = j' := ⟨j.toNat, by omega⟩
    have dv3 := dv.same s3
    have case3 : t = 0 ∨ t = 1 ∨ t = 2 := by omega
    rcases case3 with rfl | rfl | rfl
    · refine s1_if (b := true) a3 (t1_test (e1_op (e1_var rfl e4) e1_int r1_eqI)) (fun _ H4 a4 s4 => ?_) (fun z => Bool.noConfusion z)
      refine s3_asg (K := K) (k := 0 + 1) (R := fun d => fnB d = true) a4 (by omega) (e3_pick (k := 0) (R := fun d => fnB d = true) o rfl (E1.e3 (d := .list picksF) (by unfold picksF; walk_at "e1c") ⟨_, .inl rfl, by decide, by decide, by decide +kernel⟩)) fun v5 d5 H5 r5 a5 s5 e5 => ?_
      have dv5 := (dv3.same s4).same s5
      have e35 := (e3.same s4).same s5
      refine s1_asg (K := K) (d := .list ((ds.take j ++ [d5]) ++ ds.drop j)) a5 (e1_op (e1_op (e1_slTo (e1_var rfl dv5) (e1_var rfl e35)) (e1_lst (a1_cons (e1_var rfl e5) a1_nil) (show 1 ≤ 100000 by decide)) (r1_cat ?c1)) (e1_slFrom (e1_var rfl dv5) (e1_var rfl e35)) (r1_cat ?c2)) fun v6 H6 a6 s6 e6 => ?_
      case c1 =>
        rw [List.length_take, List.length_singleton]
        omega
      case c2 =>
        rw [List.length_append, List.length_take, List.length_singleton, List.length_drop]
        omega
      have f6 : ((ds.take j ++ [d5]) ++ ds.drop j).all fnB = true := by
        rw [List.all_append, List.all_append, all_of fl (fun e he => List.mem_of_mem_take he), all_of fl (fun e he => List.mem_of_mem_drop he)]
        simp [r5]
      have l6 : ((ds.take j ++ [d5]) ++ ds.drop j).length ≤ 3 + (i + 1) := by
        rw [List.length_append, List.length_append, List.length_take, List.length_singleton, List.length_drop]
        omega
      refine rd_next ?_
      dsimp only
      refine rd_seq ?_
      have e46 := ((e4.same s4).same s5).same s6
      refine s1_if (b := false) a6 (t1_test (e1_op (e1_var rfl e46) e1_int r1_eqI)) (fun z => Bool.noConfusion z) fun _ H7 a7 s7 => ?_
      refine rd_next ?_
      dsimp only
      refine s1_if (b := false) a7 (t1_test (e1_op (e1_var rfl e46) e1_int r1_eqI)) (fun z => Bool.noConfusion z) fun _ H8 a8 s8 => ?_
      have tot := ((((s3.trans s4).trans s5).trans s6).trans s7).trans s8
      exact hN _ _ ⟨v6, _, _, _, _, _, rfl, (e6.same s7).same s8, l6, f6⟩ ⟨U.mono a8.ok (by omega), a2.up.trans tot⟩ tot
    · refine s1_if (b := false) a3 (t1_test (e1_op (e1_var rfl e4) e1_int r1_eqI)) (fun z => Bool.noConfusion z) fun _ H4 a4 s4 => ?_
      refine rd_next ?_
      dsimp only
      refine rd_seq ?_
      refine s1_if (b := true) a4 (t1_test (e1_op (e1_var rfl e4) e1_int r1_eqI)) (fun _ H5 a5 s5 => ?_) (fun z => Bool.noConfusion z)
      refine s1_asg (K := K) (d := .list (ds.take j ++ ds.drop (j + 1))) a5 (e1_op (e1_slTo (e1_var rfl dv3) (e1_var rfl e3)) (e1_slFrom (j := j + 1) (e1_var rfl dv3) (E1.is (e1_op (e1_var rfl e3) e1_int r1_int) (congrArg PyData.int (by omega)))) (r1_cat ?c3)) fun v6 H6 a6 s6 e6 => ?_
      case c3 =>
        rw [List.length_take, List.length_drop]
        omega
      have f6 : (ds.take j ++ ds.drop (j + 1)).all fnB = true := by
        rw [List.all_append, all_of fl (fun e he => List.mem_of_mem_take he), all_of fl (fun e he => List.mem_of_mem_drop he)] <;> rfl
      have l6 : (ds.take j ++ ds.drop (j + 1)).length ≤ 3 + (i + 1) := by
        rw [List.length_append, List.length_take, List.length_drop]
        omega
      refine rd_next ?_
      dsimp only
      have e46 := ((e4.same s4).same s5).same s6
      refine s1_if (b := false) a6 (t1_test (e1_op (e1_var rfl e46) e1_int r1_eqI)) (fun z => Bool.noConfusion z) fun _ H8 a8 s8 => ?_
      have tot := (((s3.trans s4).trans s5).trans s6).trans s8
      exact hN _ _ ⟨v6, _, _, _, _, _, rfl, e6.same s8, l6, f6⟩ ⟨U.mono a8.ok (by omega), a2.up.trans tot⟩ tot
    · refine s1_if (b := false) a3 (t1_test (e1_op (e1_var rfl e4) e1_int r1_eqI)) (fun z => Bool.noConfusion z) fun _ H4 a4 s4 => ?_
      refine rd_next ?_
      dsimp only
      refine rd_seq ?_
      refine s1_if (b := false) a4 (t1_test (e1_op (e1_var rfl e4) e1_int r1_eqI)) (fun z => Bool.noConfusion z) fun _ H5 a5 s5 => ?_
      refine rd_next ?_
      dsimp only
      refine s1_if (b := true) a5 (t1_test (e1_op (e1_var rfl e4) e1_int r1_eqI)) (fun _ H6 a6 s6 => ?_) (fun z => Bool.noConfusion z)
      refine s1_asg (K := K) (d := .list (ds ++ ds.take 1)) a6 (e1_op (e1_var rfl dv3) (e1_slTo (j := 1) (e1_var rfl dv3) e1_int) (r1_cat ?c4)) fun v6 H7 a7 s7 e6 => ?_
      case c4 =>
        rw [List.length_take]
        omega
      have f6 : (ds ++ ds.take 1).all fnB = true := by
        rw [List.all_append, fl, all_of fl (fun e he => List.mem_of_mem_take he)] <;> rfl
      have l6 : (ds ++ ds.take 1).length ≤ 3 + (i + 1) := by
        rw [List.length_append, List.length_take]
        omega
      have tot := (((s3.trans s4).trans s5).trans s6).trans s7
      exact hN _ _ ⟨v6, _, _, _, _, _, rfl, e6, l6, f6⟩ ⟨U.mono a7.ok (by omega), a2.up.trans tot⟩ tot
  case hd =>
    rintro i σ' H2 hi ⟨v, ds, x2, x3, x4, x5, rfl, dv, ll, fl⟩ a2 s2
    dsimp only
    have nf : ∀ d, bothD d ds → NF d := fun d hb => .inl ⟨ds, hb, by omega, fl⟩
    refine s3_ret (K := K) (k := (0 + 1 + 0) + 1) (R := NF) (At.here a2.ok) (by omega) (e3_pick (k := 0 + 1 + 0) (R := NF) o rfl (E3.weak (e3_lstH (a3_consE (e1_var rfl dv) (a3_consE (e1_tuple (e1_var rfl dv) (.inl rfl)) (a3_consE (e1_var rfl dv) (a3_consH (k1 := 0 + 1) (k2 := 0) (e3_pick (k := 0) (R := NF) o rfl (E1.e3 (d := .list picksW) (by unfold picksW; walk_at "e1c") ⟨_, .inl rfl, by decide, by decide, ?p1⟩)) (A1.a3 a1_nil))))) ?p2) ?p3)) fun y d H3 r ok3 s3 e3 => q y d H3 r (U.mono ok3 (by omega)) ((s1.trans s2).trans s3) e3
    case p1 =>
      intro e he
      have z : ∀ e ∈ picksW, (!isLstD e && okd 3 800 e) = true := by decide +kernel
      have := z e he
      rw [Bool.and_eq_true, Bool.not_eq_true'] at this
      exact .inr this
    case p2 =>
      rintro ds ⟨_, rfl, _, rfl, _, rfl, d, _, rfl, _, rfl⟩
      exact (show 4 ≤ 100000 by decide)
    case p3 =>
      rintro d ⟨_, rfl, _, rfl, _, rfl, _, rfl, d, _, rfl, hd, rfl⟩
      refine ⟨_, .inl rfl, List.cons_ne_nil _ _, (show 4 ≤ 100000 by decide), fun e he => ?_⟩
      simp only [List.mem_cons, List.not_mem_nil, or_false] at he
      rcases he with rfl | rfl | rfl | rfl
      · exact nf _ (.inl rfl)
      · exact nf _ (.inr rfl)
      · exact nf _ (.inl rfl)
      · exact hd
end
end Mw
namespace Mw
open PySem PySem.Spec PyProof.Rows L2
local macro_rules | `(tactic| walk_at "e1c") => `(tactic| repeat' (first | exact e1_int | exact e1_str | exact e1_bl | exact e1_non | exact a1_nil | refine a1_cons ?_ ?_ | exact e1_dis0 | exact e1_dis1 | refine e1_tup ?_ (by decide) | refine e1_lst ?_ (by decide) | exact e1_neg e1_int))
def catR (l : List PyData) : PyData → PyData
  | .list m => .list (l ++ m)
  | _ => .none
def catL (m : List PyData) : PyData → PyData
  | .list l => .list (l ++ m)
  | _ => .none
section
variable {P : Program} {w : World} {K : PySem.W.Frag} {mg : Str → Option Value} {base : Heap}
theorem ok_nearN {f : Addr} {fd : FuncData} (F : Fun K "_law_near_numbers" "_law_near_numbers" s__law_near_numbers f fd) (T : Blt mg) (G_take : Def P w K mg base "_law_take" 2 ["state", "size"] spTake) (G_pick : Def P w K mg base "_law_pick" 3 ["state", "some"] (spPick K)) (G_shuf : Def P w K mg base "_law_shuffled" 3 ["state", "some"] (spShuf K)) :
    FnG P w K mg base 5 f fd ["state"] (spNN K) := by
  refine fnG F sc__law_near_numbers (fun vs H Q E h => spD_len h) (fun cdv A outer s H vs Q E hr h => ?_)
  obtain ⟨U, W, n, ws, ds, o, rfl, ok, hn, hd, hl, _, q⟩ := h
  obtain rfl : ds = [] := List.length_eq_zero_iff.mp hl
  cases hd
  have hu := hu_of hr.r
  have a : At U n (U.view H) H := At.here ok
  refine ⟨_, pss_cons (ps_set (i := 1) sc__law_near_numbers.nd rfl (.inl rfl) (pe_slice sl_list (pe_go G_shuf hr (pa_cons (pv 0) (pa_cons (pe_lst (pa_cons pe_int (pa_cons pe_int (pa_cons pe_int (pa_cons pe_int (pa_cons pe_int (pa_cons pe_int (pa_cons pe_int (pa_cons (pe_op op_pow pe_int pe_int) (pa_cons pe_int pa_nil)))))))))) pa_nil))) po_none (po_some (pe_go G_take hr (pa_cons (pv 0) (pa_cons pe_int pa_nil))))))
        (pss_cons (ps_for PassesOwn.never rfl (pi_range1 (by rfl) T.range (pa_cons (pe_go G_pick hr (pa_cons (pv 0) (pa_cons (pe_lst (pa_cons pe_int (pa_cons pe_int (pa_cons pe_int (pa_cons pe_int pa_nil))))) pa_nil))) pa_nil)) (pg_name (i := 2) sc__law_near_numbers.nd rfl (.inl rfl))
        (pss_cons (ps_par (i := 3) (j := 4) rfl sc__law_near_numbers.nd rfl rfl (by decide) rfl rfl (pa_cons (pe_go G_take hr (pa_cons (pv 0) (pa_cons (pe_op op_add (pe_callB call_len (by rfl) T.len (by decide +kernel) (pa_cons (pv 1) pa_nil)) pe_int) pa_nil))) (pa_cons (pe_go G_take hr (pa_cons (pv 0) (pa_cons pe_int pa_nil))) pa_nil)) (by rfl))
          (pss_cons (ps_if (pt_cmpR op_eq (pv 4) pe_int (nomark _))
          (pss_one (ps_set (i := 1) sc__law_near_numbers.nd rfl (.inl rfl) (pe_op op_cat (pe_op op_cat (pe_slice sl_list (pv 1) po_none (po_some (pv 3))) (pe_lst (pa_cons (pe_go G_pick hr (pa_cons (pv 0) (pa_cons (pe_lst (pa_cons (pe_un un_neg pe_int) (pa_cons pe_bl (pa_cons pe_non (pa_cons pe_str (pa_cons (pe_tup (pa_cons pe_int pa_nil)) (pa_cons (pe_lst (pa_cons pe_int pa_nil)) (pa_cons pe_int (pa_cons pe_int pa_nil))))))))) pa_nil))) pa_nil))) (pe_slice sl_list (pv 1) (po_some (pv 3)) po_none))))
          pss_nil)
          (pss_one (ps_if (pt_cmpR op_eq (pv 4) pe_int (nomark _))
          (pss_one (ps_set (i := 1) sc__law_near_numbers.nd rfl (.inl rfl) (pe_op op_cat (pv 1) (pe_slice sl_list (pv 1) po_none (po_some pe_int)))))
          pss_nil)))))
        (pss_one (ps_ret (pe_go G_pick hr (pa_cons (pv 0) (pa_cons (pe_lst (pa_cons (pv 1) (pa_cons (pe_callTy call_tuple_of (by rfl) T.tuple (by decide +kernel) (pa_cons (pv 1) pa_nil)) (pa_cons (pv 1) (pa_cons (pe_go G_pick hr (pa_cons (pv 0) (pa_cons (pe_lst (pa_cons pe_non (pa_cons pe_int (pa_cons pe_str (pa_cons (pe_disp (pps_cons pe_int pe_int pps_nil) (by rfl) (by rfl) (fun z => by cases z) (by decide)) (pa_cons pe_bl pa_nil)))))) pa_nil))) pa_nil))))) pa_nil)))))), ?_⟩
  refine s3_asg (K := K) (k := 9 + 1) (R := fun d => ∃ ds, d = .list ds ∧ ds.length ≤ 9 ∧ ds.all nnB = true) a (by omega) (E3.weak (e3_slTo (Pj := fun j => 0 ≤ j ∧ j < 10) (e3_shuf (ds := [.int 0, .int 1, .int 2, .int 3, .int 4, .int 5, .int 6, .int (10 ^ 12), .int 9]) o rfl (e1_lst (a1_cons e1_int (a1_cons e1_int (a1_cons e1_int (a1_cons e1_int (a1_cons e1_int (a1_cons e1_int (a1_cons e1_int (a1_cons (E1.is (e := .int (10 ^ 12)) (powC ⟨by decide, by decide, by decide⟩) (congrArg PyData.int (by decide +kernel))) (a1_cons e1_int a1_nil))))))))) (by decide)) (.inl rfl) (by decide) (by decide +kernel)) (e3_take (z := 10) o rfl e1_int (by decide) (by decide)) (fun j pj => pj.1)) ?g1) fun v1 d1 H1 r1 a1 s1 e1 => ?_
  case g1 =>
    rintro d ⟨es, j, pe, _, rfl⟩
    refine ⟨_, rfl, Nat.le_trans (List.length_take_le' _ _) (Nat.le_of_eq pe.length_eq), ?_⟩
    have z : [PyData.int 0, .int 1, .int 2, .int 3, .int 4, .int 5, .int 6, .int (10 ^ 12), .int 9].all nnB = true := by decide +kernel
    exact all_of z fun e he => pe.mem_iff.mp (List.mem_of_mem_take he)
  obtain ⟨ds1, rfl, l1, f1⟩ := r1
  refine s3_for (K := K) (k0 := 0 + 1) (k := 3) (m := 2) a1 (by omega) (i3_rng (P := fun j => 0 ≤ j ∧ j ≤ 2) (E3.weak (e3_pick (k := 0) (R := fun d => ∃ j : Int, d = .int j ∧ 0 ≤ j ∧ j ≤ 2) o rfl (E1.e3 (d := .list [.int 0, .int 0, .int 1, .int 2]) (e1_lst (a1_cons e1_int (a1_cons e1_int (a1_cons e1_int (a1_cons e1_int a1_nil)))) (by decide)) ⟨_, .inl rfl, by decide, by decide, ?g2⟩)) (fun d ⟨j, e, j0, j2⟩ => ⟨j, e, ⟨j0, j2⟩, by omega, by omega⟩))) ?g3
    (fun i σ' H' => ∃ (v : V) (ds : List PyData) (x2 x3 x4 : Option V), σ' = [some (.ref W.d), some v, x2, x3, x4] ∧ Dd K (U.view H') v (.list ds) ∧ ds.length ≤ 9 + i ∧ ds.all nnB = true) (fun H' s' => ⟨v1, ds1, _, _, _, rfl, e1.same s', l1, f1⟩) ?hs ?hd
  case g2 =>
    intro e he
    simp only [List.mem_cons, List.not_mem_nil, or_false] at he
    rcases he with rfl | rfl | rfl | rfl <;> exact ⟨_, rfl, by decide, by decide⟩
  case g3 =>
    rintro ds ⟨j, ⟨j0, j2⟩, rfl⟩
    rw [List.length_map, List.length_range]
    omega
  case hs =>
    rintro i n' σ' H2 vc dc N hi hn' ⟨v, ds, x2, x3, x4, rfl, dv, ll, fl⟩ a2 s2 dc2 hN
    refine s3_par2 (K := K) (k1 := 1) (k2 := 1) (At.here a2.ok) (by omega) (e3_take (z := (ds.length : Int) + 1) o rfl (e1_op (e1_len (e1_var rfl dv) rfl (by omega)) e1_int r1_int) (by omega) (by omega)) (e3_take (z := 2) o rfl e1_int (by decide) (by decide)) fun v3 v4 d3 d4 H3 r3 r4 a3 s3 e3 e4 => ?_
    obtain ⟨j, rfl, j0, j1⟩ := r3
    obtain ⟨t, rfl, t0, t1⟩ := r4
    obtain ⟨j, rfl⟩ : ∃ j' : Nat, j = j' := ⟨j.toNat, by omega⟩
    have dv3 := dv.same s3
    have case2 : t = 0 ∨ t = 1 := by omega
    rcases case2 with rfl | rfl
    · refine s1_if (b := true) a3 (t1_test (e1_op (e1_var rfl e4) e1_int r1_eqI)) (fun _ H4 a4 s4 => ?_) (fun z => Bool.noConfusion z)
      have dv4 := dv3.same s4
      refine s3_asg (K := K) (k := 0 + 1 + 0) (R := fun d => ∃ ds', d = .list ds' ∧ ds'.length ≤ 9 + (i + 1) ∧ ds'.all nnB = true) a4 (by omega) (E3.weak (e3_op1 (f := catL (ds.drop j)) (e3_op2 (f := catR (ds.take j)) (e1_slTo (e1_var rfl dv3) (e1_var rfl e3)) (E3.weak (S := fun d => ∃ d', d = .list [d'] ∧ nnB d' = true) (e3_lstH (a3_consH (k1 := 0 + 1) (k2 := 0) (e3_pick (k := 0) (R := fun d => nnB d = true) o rfl (E1.e3 (d := .list picksN) (by unfold picksN; walk_at "e1c") ⟨_, .inl rfl, by decide, by decide, by decide +kernel⟩)) (A1.a3 a1_nil)) ?w1) ?w2) ?w3) (e1_slFrom (e1_var rfl dv3) (e1_var rfl e3)) ?w4) ?w5) fun v6 d6 H6 r6 a6 s6 e6 => ?_
      case w1 =>
        rintro l ⟨d', es, rfl, _, rfl⟩
        exact (show 1 ≤ 100000 by decide)
      case w2 =>
        rintro d ⟨l, rfl, d', es, rfl, h, rfl⟩
        exact ⟨d', rfl, h⟩
      case w3 =>
        rintro d ⟨d', rfl, h⟩
        refine r1_cat ?_
        rw [List.length_take, List.length_singleton]
        omega
      case w4 =>
        rintro d ⟨_, ⟨d', rfl, h⟩, rfl⟩
        refine r1_cat ?_
        rw [List.length_append, List.length_take, List.length_singleton, List.length_drop]
        omega
      case w5 =>
        rintro d ⟨_, ⟨_, ⟨d', rfl, h⟩, rfl⟩, rfl⟩
        refine ⟨(ds.take j ++ [d']) ++ ds.drop j, rfl, ?_, ?_⟩
        · rw [List.length_append, List.length_append, List.length_take, List.length_singleton, List.length_drop]
          omega
        · rw [List.all_append, List.all_append, all_of fl (fun e he => List.mem_of_mem_take he), all_of fl (fun e he => List.mem_of_mem_drop he)]
          simp [h]
      obtain ⟨ds6, rfl, l6, f6⟩ := r6
      refine rd_next ?_
      dsimp only
      have e46 := (e4.same s4).same s6
      refine s1_if (b := false) a6 (t1_test (e1_op (e1_var rfl e46) e1_int r1_eqI)) (fun z => Bool.noConfusion z) fun _ H8 a8 s8 => ?_
      have tot := ((s3.trans s4).trans s6).trans s8
      exact hN _ _ ⟨v6, _, _, _, _, rfl, e6.same s8, l6, f6⟩ ⟨U.mono a8.ok (by omega), a2.up.trans tot⟩ tot
    · refine s1_if (b := false) a3 (t1_test (e1_op (e1_var rfl e4) e1_int r1_eqI)) (fun z => Bool.noConfusion z) fun _ H4 a4 s4 => ?_
      refine rd_next ?_
      dsimp only
      refine s1_if (b := true) a4 (t1_test (e1_op (e1_var rfl e4) e1_int r1_eqI)) (fun _ H6 a6 s6 => ?_) (fun z => Bool.noConfusion z)
      refine s1_asg (K := K) (d := .list (ds ++ ds.take 1)) a6 (e1_op (e1_var rfl dv3) (e1_slTo (j := 1) (e1_var rfl dv3) e1_int) (r1_cat ?c4)) fun v6 H7 a7 s7 e6 => ?_
      case c4 =>
        rw [List.length_take]
        omega
      have f6 : (ds ++ ds.take 1).all nnB = true := by
        rw [List.all_append, fl, all_of fl (fun e he => List.mem_of_mem_take he)] <;> rfl
      have l6 : (ds ++ ds.take 1).length ≤ 9 + (i + 1) := by
        rw [List.length_append, List.length_take]
        omega
      have tot := ((s3.trans s4).trans s6).trans s7
      exact hN _ _ ⟨v6, _, _, _, _, rfl, e6, l6, f6⟩ ⟨U.mono a7.ok (by omega), a2.up.trans tot⟩ tot
  case hd =>
    rintro i σ' H2 hi ⟨v, ds, x2, x3, x4, rfl, dv, ll, fl⟩ a2 s2
    dsimp only
    have nf : ∀ d, bothD d ds → NN d := fun d hb => .inl ⟨ds, hb, by omega, fl⟩
    refine s3_ret (K := K) (k := (0 + 1 + 0) + 1) (R := NN) (At.here a2.ok) (by omega) (e3_pick (k := 0 + 1 + 0) (R := NN) o rfl (E3.weak (e3_lstH (a3_consE (e1_var rfl dv) (a3_consE (e1_tuple (e1_var rfl dv) (.inl rfl)) (a3_consE (e1_var rfl dv) (a3_consH (k1 := 0 + 1) (k2 := 0) (e3_pick (k := 0) (R := NN) o rfl (E1.e3 (d := .list picksX) (e1_lst (a1_cons e1_non (a1_cons e1_int (a1_cons e1_str (a1_cons e1_disI (a1_cons e1_bl a1_nil))))) (by decide)) ⟨_, .inl rfl, by decide, by decide, ?p1⟩)) (A1.a3 a1_nil))))) ?p2) ?p3)) fun y d H3 r ok3 s3 e3 => q y d H3 r (U.mono ok3 (by omega)) ((s1.trans s2).trans s3) e3
    case p1 =>
      intro e he
      have z : ∀ e ∈ picksX, (!isLstD e && okd 3 800 e) = true := by decide +kernel
      have := z e he
      rw [Bool.and_eq_true, Bool.not_eq_true'] at this
      exact .inr this
    case p2 =>
      rintro ds ⟨_, rfl, _, rfl, _, rfl, d, _, rfl, _, rfl⟩
      exact (show 4 ≤ 100000 by decide)
    case p3 =>
      rintro d ⟨_, rfl, _, rfl, _, rfl, _, rfl, d, _, rfl, hd, rfl⟩
      refine ⟨_, .inl rfl, List.cons_ne_nil _ _, (show 4 ≤ 100000 by decide), fun e he => ?_⟩
      simp only [List.mem_cons, List.not_mem_nil, or_false] at he
      rcases he with rfl | rfl | rfl | rfl
      · exact nf _ (.inl rfl)
      · exact nf _ (.inr rfl)
      · exact nf _ (.inl rfl)
      · exact hd
end
end Mw
namespace Mw
open PySem PySem.Spec PyProof.Rows L2
section
variable {K : PySem.W.Frag} {U : Wo} {W : Wd} {M : Hp} {σ : L2.St} {n k k0 m : Nat} {te ta tb : TE} {D : Ends} {H : Hp}
/-- a for that may leave -/
theorem s1_for {wi : TI} {j : Nat} {ds : List PyData} {tb : TS} (a : At U n M H) (h : I1 K U M wi σ ds) (Pv : Nat → L2.St → Prop) (h0 : Pv 0 σ)
    (hs : ∀ i σ' H' v d (N : L2.St → Hp → Prop), ds[i]? = some d → Pv i σ' → At U n M H' → Same (U.view H) (U.view H') → Dd K (U.view H') v d → (∀ σ2 H2, Pv (i + 1) σ2 → At U n M H2 → Same (U.view H') (U.view H2) → N σ2 H2) →
      tb { D with nx := N, ct := N, bk := D.nx } (σ'.set j (some v)) H')
    (hd : ∀ σ' H', Pv ds.length σ' → At U n M H' → Same (U.view H) (U.view H') → D.nx σ' H') : tFor wi (gName j) tb D σ H :=
  h n H a _ fun J H1 ok1 s1 w => by
    refine for_it w (fun i σ' H' => Pv i σ' ∧ At U n M H' ∧ Same (U.view H1) (U.view H')) ⟨h0, a.step ok1 s1, Same.refl _⟩ (fun i σ' H' _ z => z.2.2) ?_ ?_
    · rintro i x σ' H2 H3 hi ⟨pv, a2, s2⟩ ⟨rfl, d, hd, dx⟩
      exact hs i σ' H3 x d _ hd pv a2 (s1.trans s2) (dx.same s2) fun σ2 H4 p2 a4 s4 => ⟨p2, a4, s2.trans s4⟩
    · rintro σ' H2 ⟨pv, a2, s2⟩
      exact hd _ _ pv a2 (s1.trans s2)
theorem r1_leS {a b : Str} : R1 K U (fun x y H Q => ∃ i j, x = .str i ∧ y = .str j ∧ Q (.bl (!decide (j.cps.toList < i.cps.toList))) H) (.str a) (.str b) (.bool (!decide (b.cps.toList < a.cps.toList))) := fun n H x y ok h1 h2 Q q => by
  cases h1
  cases h2
  exact ⟨_, _, rfl, rfl, q _ H ok (Same.refl _) (.bl _)⟩
end
def lowD : PyData → Bool
  | .str x => !decide (x.cps.toList < [97]) && !decide ([122] < x.cps.toList)
  | _ => false
theorem letters_are : lettersS.cps.toList = [97, 98, 99, 100, 101, 102, 103, 104, 105, 106, 107, 108, 109, 110, 111, 112, 113, 114, 115, 116, 117, 118, 119, 120, 121, 122] := by decide +kernel
theorem low_sign (c : Nat) : lowD (.str ⟨#[c]⟩) = signIn lettersS (.str ⟨#[c]⟩) := by
  show (!decide ([c] < [97]) && !decide ([122] < [c])) = decide (c ∈ lettersS.cps.toList)
  rw [letters_are, Bool.eq_iff_iff]
  simp only [Bool.and_eq_true, Bool.not_eq_true', decide_eq_false_iff_not, decide_eq_true_eq, List.mem_cons, List.not_mem_nil, or_false, List.cons_lt_cons_iff, List.not_lt_nil, and_false]
  omega
theorem none_low {x : Str} : ((signs x).filter fun d => !lowD d).isEmpty = ((signs x).map (signIn lettersS)).all id := by
  rw [all_id, Bool.eq_iff_iff, List.isEmpty_iff, List.filter_eq_nil_iff, List.all_eq_true]
  constructor
  · intro h d hd
    obtain ⟨c, hc, rfl⟩ := List.mem_map.mp hd
    have := h _ hd
    rw [← low_sign]
    simpa using this
  · intro h d hd
    obtain ⟨c, hc, rfl⟩ := List.mem_map.mp hd
    have := h _ hd
    rw [low_sign, this]
    decide
/-- texts that can be laid out -/
theorem signs_laid {x : Str} (h : PyData.strOk x = true) : ∀ d ∈ signs x, d.canLay0 = true ∧ d.depth = 0 := by
  intro d hd
  obtain ⟨c, hc, rfl⟩ := List.mem_map.mp hd
  have h2 : x.cps.toList.all (· < 0x110000) = true := by rw [Array.all_toList]; exact h
  have h3 := List.all_eq_true.mp h2 c hc
  refine ⟨?_, rfl⟩
  simp only [PyData.canLay0, PyData.strOk]
  simpa using h3
theorem shaped_flat {ds : List PyData} (h : ∀ d ∈ ds, d.canLay0 = true ∧ d.depth = 0) : SeqAt.shaped (.list ds) = true := by
  have key : ∀ {ds : List PyData}, (∀ d ∈ ds, d.canLay0 = true ∧ d.depth = 0) → PyData.canLayAll0 ds = true ∧ PyData.depthAll ds = 0 := fun {ds} => by
    induction ds with
    | nil => exact fun _ => ⟨rfl, rfl⟩
    | cons d ds ih =>
      intro h
      obtain ⟨b1, b2⟩ := ih fun e he => h e (List.mem_cons_of_mem _ he)
      obtain ⟨a1, a2⟩ := h d (List.mem_cons_self ..)
      refine ⟨?_, ?_⟩
      · simp [PyData.canLayAll0, a1, b1]
      · simp [PyData.depthAll, a2, b2]
  obtain ⟨h1, h2⟩ := key h
  simp [SeqAt.shaped, PyData.canLay0, PyData.depth, h1, h2]
/-! ### what the law says of them -/
def strOf : PyData → Str
  | .str x => x
  | _ => ""
def intOf : PyData → Int
  | .int x => x
  | _ => 0
def gL (ds : List PyData) : Bool := (decide (1 ≤ ds.length) && decide (ds.length ≤ 3)) && (ds.all isFieldD && decide ((ds.map strOf).Nodup))
def gF : PyData → Bool
  | .list ds => gL ds
  | .tuple ds => gL ds
  | _ => false
def gNL (ds : List PyData) : Bool := decide (ds.length ≤ 8) && (ds.all isCountD && decide ((ds.map intOf).Nodup))
def gN : PyData → Bool
  | .list ds => gNL ds
  | .tuple ds => gNL ds
  | _ => false
def PAreF (ds : List PyData) (e : PyData) : Prop := ∃ d, ds = [d] ∧ NF d ∧ e = .bool (gF d)
def PAreN (ds : List PyData) (e : PyData) : Prop := ∃ d, ds = [d] ∧ NN d ∧ e = .bool (gN d)
theorem strs_of : ∀ (xs : List Str), (strsD xs).map strOf = xs
  | [] => rfl
  | x :: xs => congrArg (x :: ·) (strs_of xs)
theorem ints_of : ∀ (xs : List Int), (intsD xs).map intOf = xs
  | [] => rfl
  | x :: xs => congrArg (x :: ·) (ints_of xs)
theorem kinds_dec {ks : List Key} : decide ((kinds ks ks.length : Int) = ks.length) = decide ks.Nodup := by
  refine decide_eq_decide.mpr ⟨fun e => ?_, fun h => by rw [kinds_all h _ (Nat.le_refl _)]⟩
  have := all_kinds ks.length (Nat.le_refl _) (by omega)
  rwa [List.take_length] at this
theorem all_no {p : PyData → Bool} {ds : List PyData} {i : Nat} {d : PyData} (h : ds[i]? = some d) (hp : p d = false) : ds.all p = false := by
  rw [List.all_eq_false]
  exact ⟨d, List.mem_of_getElem? h, by rw [hp]; exact Bool.false_ne_true⟩
theorem all_snoc {p : PyData → Bool} {ds : List PyData} {i : Nat} {d : PyData} (h : ds[i]? = some d) (hi : (ds.take i).all p = true) (hp : p d = true) : (ds.take (i + 1)).all p = true := by
  rw [List.take_add_one, h, List.all_append, hi]
  simp [hp]
section
variable {P : Program} {w : World} {K : PySem.W.Frag} {mg : Str → Option Value} {base : Heap}
theorem ok_areF {f : Addr} {fd : FuncData} (F : Fun K "_law_are_fields" "_law_are_fields" s__law_are_fields f fd) (T : Blt mg) : FnG P w K mg base 1 f fd ["thing_here"] (spX K 1 PAreF) := by
  refine fnG F sc__law_are_fields (fun vs H Q E h => spX_len h) (fun cdv A outer s H vs Q E hr h => ?_)
  obtain ⟨U, n, es, e, ok, hd, hl0, ⟨d, rfl, near, rfl⟩, q⟩ := h
  obtain ⟨v, rfl, hv⟩ := dd1 hd
  have hu64 := hu64 hr.r
  have a : At U n (U.view H) H := At.here ok
  rcases near with ⟨ds, hb, hl, hf⟩ | ⟨no, _⟩
  rotate_left
  · refine ⟨_, pss_cons (ps_if (PW.pt (pw_or (pt_not (pt_val (pe_callB call_isiT (by rfl) T.isinstance (by decide +kernel) (pa_cons (pv 0) (pa_cons (pe_tup (pa_cons (pe_bltn (v := .ty "list") (by rfl) T.list (by decide +kernel) rfl) (pa_cons (pe_bltn (v := .ty "tuple") (by rfl) T.tuple (by decide +kernel) rfl) pa_nil))) pa_nil))))) (pw_or1 (pt_not (pt_chain op_le op_le pe_int (pe_callB call_len (by rfl) T.len (by decide +kernel) (pa_cons (pv 0) pa_nil)) pe_int)))))
        (pss_one (ps_ret pe_bl))
        pss_nil)
        (pss_cons (ps_for PassesOwn.never rfl (pi_list (pv 0)) (pg_name (i := 1) sc__law_are_fields.nd rfl (.inl rfl))
        (pss_cons (ps_if (PW.pt (pw_or (pt_not (pt_val (pe_callB call_isi (by rfl) T.isinstance (by decide +kernel) (pa_cons (pv 1) (pa_cons (pe_bltn (v := .ty "str") (by rfl) T.str (by decide +kernel) rfl) pa_nil))))) (pw_or (pt_not (pt_chain op_le op_le pe_int (pe_callB call_len (by rfl) T.len (by decide +kernel) (pa_cons (pv 1) pa_nil)) pe_int)) (pw_or1 (pt_cmpR op_in_seq (pv 1) (pe_tup (pa_cons pe_str (pa_cons pe_str (pa_cons pe_str (pa_cons pe_str pa_nil))))) rfl)))))
          (pss_one (ps_ret pe_bl))
          pss_nil)
          (pss_one (ps_if (pt_cmpR (op_neD hu64) (pe_lc (own := [("sign", 2)]) (g := gName 2) (te := tVar 2) rfl sc__law_are_fields.nd (pi_str (pv 1)) (blkOk_by (N := ["thing_here", "label", "sign"]) (sc := defScope s__law_are_fields) (by decide +kernel)) (fun _ _ _ _ _ => (pg_name (i := 2) sc__law_are_fields.nd rfl (.inl rfl))) (fun _ _ _ _ _ => pts_one (pt_not (pt_chain op_le_str op_le_str pe_str (pv 2) pe_str))) (fun _ _ _ _ _ => (pv 2))) (pe_lst pa_nil) (nomark _))
          (pss_one (ps_ret pe_bl))
          pss_nil))))
        (pss_one (ps_ret (pe_cmpR op_eq (pe_lenK (pv 0) T.len T.set) (pe_callB call_len (by rfl) T.len (by decide +kernel) (pa_cons (pv 0) pa_nil)) (nomark _))))), ?_⟩
    refine s1_if (b := true) a (T1.is (t1_or (a := true) (T1.is (t1_not (t1_val (e1_isi2 (e1_var rfl hv) (kit_seq d)))) (by rw [no] <;> rfl)) (b := false) fun z => Bool.noConfusion z) rfl) (fun _ H1 a1 s1 => ?_) (fun z => Bool.noConfusion z)
    refine s1_ret (K := K) (d := .bool false) a1 e1_bl fun y H2 a2 s2 d2 => q y H2 a2.ok (s1.trans s2) ?_
    have e : gF d = false := by cases d <;> first | rfl | cases no
    rw [e]
    exact d2
  have le1 : decide ((1 : Int) ≤ ds.length) = decide (1 ≤ ds.length) := decide_eq_decide.mpr (by omega)
  have le3 : decide ((ds.length : Int) ≤ 3) = decide (ds.length ≤ 3) := decide_eq_decide.mpr (by omega)
  rcases hb with rfl | rfl
  · refine ⟨_, pss_cons (ps_if (PW.pt (pw_or (pt_not (pt_val (pe_callB call_isiT (by rfl) T.isinstance (by decide +kernel) (pa_cons (pv 0) (pa_cons (pe_tup (pa_cons (pe_bltn (v := .ty "list") (by rfl) T.list (by decide +kernel) rfl) (pa_cons (pe_bltn (v := .ty "tuple") (by rfl) T.tuple (by decide +kernel) rfl) pa_nil))) pa_nil))))) (pw_or1 (pt_not (pt_chain op_le op_le pe_int (pe_callB call_len (by rfl) T.len (by decide +kernel) (pa_cons (pv 0) pa_nil)) pe_int)))))
        (pss_one (ps_ret pe_bl))
        pss_nil)
        (pss_cons (ps_for PassesOwn.never rfl (pi_list (pv 0)) (pg_name (i := 1) sc__law_are_fields.nd rfl (.inl rfl))
        (pss_cons (ps_if (PW.pt (pw_or (pt_not (pt_val (pe_callB call_isi (by rfl) T.isinstance (by decide +kernel) (pa_cons (pv 1) (pa_cons (pe_bltn (v := .ty "str") (by rfl) T.str (by decide +kernel) rfl) pa_nil))))) (pw_or (pt_not (pt_chain op_le op_le pe_int (pe_callB call_len (by rfl) T.len (by decide +kernel) (pa_cons (pv 1) pa_nil)) pe_int)) (pw_or1 (pt_cmpR op_in_seq (pv 1) (pe_tup (pa_cons pe_str (pa_cons pe_str (pa_cons pe_str (pa_cons pe_str pa_nil))))) rfl)))))
          (pss_one (ps_ret pe_bl))
          pss_nil)
          (pss_one (ps_if (pt_cmpR (op_neD hu64) (pe_lc (own := [("sign", 2)]) (g := gName 2) (te := tVar 2) rfl sc__law_are_fields.nd (pi_str (pv 1)) (blkOk_by (N := ["thing_here", "label", "sign"]) (sc := defScope s__law_are_fields) (by decide +kernel)) (fun _ _ _ _ _ => (pg_name (i := 2) sc__law_are_fields.nd rfl (.inl rfl))) (fun _ _ _ _ _ => pts_one (pt_not (pt_chain op_le_str op_le_str pe_str (pv 2) pe_str))) (fun _ _ _ _ _ => (pv 2))) (pe_lst pa_nil) (nomark _))
          (pss_one (ps_ret pe_bl))
          pss_nil))))
        (pss_one (ps_ret (pe_cmpR op_eq (pe_lenK (pv 0) T.len T.set) (pe_callB call_len (by rfl) T.len (by decide +kernel) (pa_cons (pv 0) pa_nil)) (nomark _))))), ?_⟩
    have out : ∀ (b : Bool), b = gL ds → ∀ v H', At U n (U.view H) H' → Same (U.view H) (U.view H') → Dd K (U.view H') v (.bool b) → Q v H' := fun b e v H1 a1 s1 d1 => q v H1 a1.ok s1 (by
      show Dd K (U.view H1) v (.bool (gL ds))
      rw [← e]
      exact d1)
    have chain : ∀ H1, At U n (U.view H) H1 → True := fun _ _ => trivial
    refine s1_if (b := !(decide (1 ≤ ds.length) && decide (ds.length ≤ 3))) a (T1.is (t1_or (a := false) (T1.is (t1_not (b := true) (t1_val (e1_isi2 (e1_var rfl hv) (kit_seq (.list ds))))) rfl) (b := !(decide (1 ≤ ds.length) && decide (ds.length ≤ 3))) fun _ => T1.is (t1_not (t1_chain (a := decide ((1 : Int) ≤ ds.length)) (b := decide ((ds.length : Int) ≤ 3)) e1_int (e1_len (e1_var rfl hv) rfl (by omega)) r1_cmp (fun _ => e1_int) fun _ => r1_cmp)) (by rw [le1, le3])) rfl) (fun z H1 a1 s1 => ?_) (fun z H1 a1 s1 => ?_)
    · refine s1_ret (K := K) (d := .bool false) a1 e1_bl fun y H2 a2 s2 d2 => out false ?_ y H2 a2 (s1.trans s2) d2
      unfold gL
      rw [Bool.not_eq_true'] at z
      rw [z, Bool.false_and]
    rw [Bool.not_eq_false'] at z
    refine rd_next ?_
    dsimp only
    refine rd_seq ?_
    refine s1_for (K := K) a1 (i1_list (e1_var rfl hv)) (fun i σ => (∃ x1 x2, σ = [some v, x1, x2]) ∧ (ds.take i).all isFieldD = true) ⟨⟨_, _, rfl⟩, rfl⟩ ?hs ?hd
    case hs =>
      rintro i σ' H2 x d N hdi ⟨⟨x1, x2, rfl⟩, fi⟩ a2 s2 dx hN
      have hfd : fnB d = true := List.all_eq_true.mp hf d (List.mem_of_getElem? hdi)
      have laid : laidD d = true := by
        unfold fnB at hfd
        simp only [Bool.and_eq_true] at hfd
        exact hfd.2.2.1
      have no : ∀ y H3, isFieldD d = false → At U n (U.view H) H3 → Same (U.view H) (U.view H3) → Dd K (U.view H3) y (.bool false) → Q y H3 := fun y H3 e a3 s3 d3 => out false (by unfold gL; rw [all_no hdi e, Bool.false_and, Bool.and_false]) y H3 a3 s3 d3
      cases hs : isStrD d with
      | false =>
        refine s1_if (b := true) (At.here a2.ok) (T1.is (t1_or (a := true) (T1.is (t1_not (t1_val (e1_isi (e1_var rfl dx) (kit_str d)))) (by rw [hs] <;> rfl)) (b := false) fun z => Bool.noConfusion z) rfl) (fun _ H3 a3 s3 => ?_) (fun z => Bool.noConfusion z)
        refine s1_ret (K := K) (d := .bool false) a3 e1_bl fun y H4 a4 s4 d4 => no y H4 ?_ ⟨a4.ok, ((s1.trans s2).trans s3).trans s4⟩ (((s1.trans s2).trans s3).trans s4) d4
        cases d <;> first | exact Bool.noConfusion hs | rfl
      | true =>
        obtain ⟨x0, rfl⟩ : ∃ x, d = .str x := by
          cases d <;> first | exact Bool.noConfusion hs | exact ⟨_, rfl⟩
        obtain ⟨hz, hk⟩ : x0.length ≤ 100000 ∧ PyData.strOk x0 = true := by simpa [laidD] using laid
        have fe : isFieldD (.str x0) = (lenOk x0 && ((!barredD.any fun e => PyData.eqv e (.str x0)) && ((signs x0).map (signIn lettersS)).all id)) := rfl
        refine s1_if (b := !lenOk x0 || barredD.any fun e => PyData.eqv e (.str x0)) (At.here a2.ok) (T1.is (t1_or (a := false) (T1.is (t1_not (b := true) (t1_val (e1_isi (e1_var rfl dx) (kit_str _)))) rfl) (b := !lenOk x0 || barredD.any fun e => PyData.eqv e (.str x0)) fun _ => t1_or (a := !lenOk x0) (t1_not (t1_chain e1_int (e1_len (e1_var rfl dx) rfl hz) r1_cmp (fun _ => e1_int) fun _ => r1_cmp)) (b := barredD.any fun e => PyData.eqv e (.str x0)) fun _ => t1_test (e1_op (e1_var rfl dx) (e1_tup (ds := barredD) (a1_cons e1_str (a1_cons e1_str (a1_cons e1_str (a1_cons e1_str a1_nil)))) (by decide)) (r1_inT (neg := false) rfl (by decide)))) rfl) (fun z2 H3 a3 s3 => ?_) (fun z2 H3 a3 s3 => ?_)
        · refine s1_ret (K := K) (d := .bool false) a3 e1_bl fun y H4 a4 s4 d4 => no y H4 ?_ ⟨a4.ok, ((s1.trans s2).trans s3).trans s4⟩ (((s1.trans s2).trans s3).trans s4) d4
          rw [fe]
          cases h1 : lenOk x0 with
          | false => rfl
          | true =>
            rw [h1] at z2
            have z3 : (barredD.any fun e => PyData.eqv e (.str x0)) = true := z2
            rw [z3] <;> rfl
        refine rd_next ?_
        dsimp only
        rw [Bool.or_eq_false_iff, Bool.not_eq_false'] at z2
        have fe2 : isFieldD (.str x0) = (((signs x0).filter fun d => !lowD d).isEmpty) := by
          rw [fe, z2.1, z2.2, none_low]
          rfl
        refine s1_if (b := !((signs x0).filter fun d => !lowD d).isEmpty) (At.here a3.ok) (t1_test (E1.is (e1_op (d1 := .list ((signs x0).filter fun d => !lowD d)) (d2 := .list []) (E1.is (e1_lc (p := fun d => !lowD d) (f := fun d => d) (i1_str (e1_var rfl (dx.same s3))) (by unfold signs; rw [List.length_map, Array.length_toList]; exact hz) (fun _ => rfl) (fun U' M' v d e hm hd => ?gT) (fun U' M' v d e hm _ hd => e1_var rfl hd)) (by rw [List.map_id'])) (e1_lst a1_nil (by decide)) (r1_neD (shaped_flat fun d hd => signs_laid hk d (List.mem_filter.mp hd).1) shaped_nil)) (by rw [eqv_empty]))) (fun z3 H4 a4 s4 => ?_) (fun z3 H4 a4 s4 => ?_)
        case gT =>
          obtain ⟨c, hc, rfl⟩ := List.mem_map.mp hm
          exact t1_not (t1_chain (a := !decide ([c] < [97])) (b := !decide ([122] < [c])) e1_str (e1_var rfl hd) r1_leS (fun _ => e1_str) fun _ => r1_leS)
        · refine s1_ret (K := K) (d := .bool false) a4 e1_bl fun y H5 a5 s5 d5 => no y H5 ?_ ⟨a5.ok, (((s1.trans s2).trans s3).trans s4).trans s5⟩ ((((s1.trans s2).trans s3).trans s4).trans s5) d5
          rw [fe2]
          simpa using z3
        · refine hN _ _ ⟨⟨_, _, rfl⟩, all_snoc hdi fi ?_⟩ (a2.step a4.ok (s3.trans s4)) (s3.trans s4)
          rw [fe2]
          simpa using z3
    case hd =>
      rintro σ' H2 ⟨⟨x1, x2, rfl⟩, fi⟩ a2 s2
      rw [List.take_length] at fi
      obtain ⟨xs, rfl⟩ := fields_strs fi
      have ly : (xs.map (Sum.inr : Str → Key)).length = (strsD xs).length := by rw [List.length_map, strsD, List.length_map]
      have hv2 := hv.same (s1.trans s2)
      dsimp only
      refine s1_ret (K := K) (d := .bool (decide (xs.map (Sum.inr : Str → Key)).Nodup)) (At.here a2.ok) (E1.is (e1_op (e1_lenK (ks := xs.map (Sum.inr : Str → Key)) (e1_var rfl hv2) (by first | exact .inl (congrArg PyData.list (strs_keys xs)) | exact .inr (congrArg PyData.tuple (strs_keys xs))) (by omega)) (e1_len (e1_var rfl hv2) rfl (by omega)) r1_eqI) (congrArg PyData.bool (by rw [← kinds_dec, ly]))) fun y H3 a3 s3 d3 => out _ ?_ y H3 ⟨a3.ok, (s1.trans s2).trans s3⟩ ((s1.trans s2).trans s3) d3
      unfold gL
      rw [z, fi, Bool.true_and, Bool.true_and, strs_of]
      refine decide_eq_decide.mpr ⟨fun h => List.Pairwise.of_map _ (fun a b h e => h (congrArg _ e)) h, fun h => List.Pairwise.map _ (fun a b h e => h (Sum.inr.inj e)) h⟩
  · refine ⟨_, pss_cons (ps_if (PW.pt (pw_or (pt_not (pt_val (pe_callB call_isiT (by rfl) T.isinstance (by decide +kernel) (pa_cons (pv 0) (pa_cons (pe_tup (pa_cons (pe_bltn (v := .ty "list") (by rfl) T.list (by decide +kernel) rfl) (pa_cons (pe_bltn (v := .ty "tuple") (by rfl) T.tuple (by decide +kernel) rfl) pa_nil))) pa_nil))))) (pw_or1 (pt_not (pt_chain op_le op_le pe_int (pe_callB call_len (by rfl) T.len (by decide +kernel) (pa_cons (pv 0) pa_nil)) pe_int)))))
        (pss_one (ps_ret pe_bl))
        pss_nil)
        (pss_cons (ps_for PassesOwn.never rfl (pi_tup (pv 0)) (pg_name (i := 1) sc__law_are_fields.nd rfl (.inl rfl))
        (pss_cons (ps_if (PW.pt (pw_or (pt_not (pt_val (pe_callB call_isi (by rfl) T.isinstance (by decide +kernel) (pa_cons (pv 1) (pa_cons (pe_bltn (v := .ty "str") (by rfl) T.str (by decide +kernel) rfl) pa_nil))))) (pw_or (pt_not (pt_chain op_le op_le pe_int (pe_callB call_len (by rfl) T.len (by decide +kernel) (pa_cons (pv 1) pa_nil)) pe_int)) (pw_or1 (pt_cmpR op_in_seq (pv 1) (pe_tup (pa_cons pe_str (pa_cons pe_str (pa_cons pe_str (pa_cons pe_str pa_nil))))) rfl)))))
          (pss_one (ps_ret pe_bl))
          pss_nil)
          (pss_one (ps_if (pt_cmpR (op_neD hu64) (pe_lc (own := [("sign", 2)]) (g := gName 2) (te := tVar 2) rfl sc__law_are_fields.nd (pi_str (pv 1)) (blkOk_by (N := ["thing_here", "label", "sign"]) (sc := defScope s__law_are_fields) (by decide +kernel)) (fun _ _ _ _ _ => (pg_name (i := 2) sc__law_are_fields.nd rfl (.inl rfl))) (fun _ _ _ _ _ => pts_one (pt_not (pt_chain op_le_str op_le_str pe_str (pv 2) pe_str))) (fun _ _ _ _ _ => (pv 2))) (pe_lst pa_nil) (nomark _))
          (pss_one (ps_ret pe_bl))
          pss_nil))))
        (pss_one (ps_ret (pe_cmpR op_eq (pe_lenK (pv 0) T.len T.set) (pe_callB call_len (by rfl) T.len (by decide +kernel) (pa_cons (pv 0) pa_nil)) (nomark _))))), ?_⟩
    have out : ∀ (b : Bool), b = gL ds → ∀ v H', At U n (U.view H) H' → Same (U.view H) (U.view H') → Dd K (U.view H') v (.bool b) → Q v H' := fun b e v H1 a1 s1 d1 => q v H1 a1.ok s1 (by
      show Dd K (U.view H1) v (.bool (gL ds))
      rw [← e]
      exact d1)
    have chain : ∀ H1, At U n (U.view H) H1 → True := fun _ _ => trivial
    refine s1_if (b := !(decide (1 ≤ ds.length) && decide (ds.length ≤ 3))) a (T1.is (t1_or (a := false) (T1.is (t1_not (b := true) (t1_val (e1_isi2 (e1_var rfl hv) (kit_seq (.tuple ds))))) rfl) (b := !(decide (1 ≤ ds.length) && decide (ds.length ≤ 3))) fun _ => T1.is (t1_not (t1_chain (a := decide ((1 : Int) ≤ ds.length)) (b := decide ((ds.length : Int) ≤ 3)) e1_int (e1_len (e1_var rfl hv) rfl (by omega)) r1_cmp (fun _ => e1_int) fun _ => r1_cmp)) (by rw [le1, le3])) rfl) (fun z H1 a1 s1 => ?_) (fun z H1 a1 s1 => ?_)
    · refine s1_ret (K := K) (d := .bool false) a1 e1_bl fun y H2 a2 s2 d2 => out false ?_ y H2 a2 (s1.trans s2) d2
      unfold gL
      rw [Bool.not_eq_true'] at z
      rw [z, Bool.false_and]
    rw [Bool.not_eq_false'] at z
    refine rd_next ?_
    dsimp only
    refine rd_seq ?_
    refine s1_for (K := K) a1 (i1_tup (e1_var rfl hv)) (fun i σ => (∃ x1 x2, σ = [some v, x1, x2]) ∧ (ds.take i).all isFieldD = true) ⟨⟨_, _, rfl⟩, rfl⟩ ?hs ?hd
    case hs =>
      rintro i σ' H2 x d N hdi ⟨⟨x1, x2, rfl⟩, fi⟩ a2 s2 dx hN
      have hfd : fnB d = true := List.all_eq_true.mp hf d (List.mem_of_getElem? hdi)
      have laid : laidD d = true := by
        unfold fnB at hfd
        simp only [Bool.and_eq_true] at hfd
        exact hfd.2.2.1
      have no : ∀ y H3, isFieldD d = false → At U n (U.view H) H3 → Same (U.view H) (U.view H3) → Dd K (U.view H3) y (.bool false) → Q y H3 := fun y H3 e a3 s3 d3 => out false (by unfold gL; rw [all_no hdi e, Bool.false_and, Bool.and_false]) y H3 a3 s3 d3
      cases hs : isStrD d with
      | false =>
        refine s1_if (b := true) (At.here a2.ok) (T1.is (t1_or (a := true) (T1.is (t1_not (t1_val (e1_isi (e1_var rfl dx) (kit_str d)))) (by rw [hs] <;> rfl)) (b := false) fun z => Bool.noConfusion z) rfl) (fun _ H3 a3 s3 => ?_) (fun z => Bool.noConfusion z)
        refine s1_ret (K := K) (d := .bool false) a3 e1_bl fun y H4 a4 s4 d4 => no y H4 ?_ ⟨a4.ok, ((s1.trans s2).trans s3).trans s4⟩ (((s1.trans s2).trans s3).trans s4) d4
        cases d <;> first | exact Bool.noConfusion hs | rfl
      | true =>
        obtain ⟨x0, rfl⟩ : ∃ x, d = .str x := by
          cases d <;> first | exact Bool.noConfusion hs | exact ⟨_, rfl⟩
        obtain ⟨hz, hk⟩ : x0.length ≤ 100000 ∧ PyData.strOk x0 = true := by simpa [laidD] using laid
        have fe : isFieldD (.str x0) = (lenOk x0 && ((!barredD.any fun e => PyData.eqv e (.str x0)) && ((signs x0).map (signIn lettersS)).all id)) := rfl
        refine s1_if (b := !lenOk x0 || barredD.any fun e => PyData.eqv e (.str x0)) (At.here a2.ok) (T1.is (t1_or (a := false) (T1.is (t1_not (b := true) (t1_val (e1_isi (e1_var rfl dx) (kit_str _)))) rfl) (b := !lenOk x0 || barredD.any fun e => PyData.eqv e (.str x0)) fun _ => t1_or (a := !lenOk x0) (t1_not (t1_chain e1_int (e1_len (e1_var rfl dx) rfl hz) r1_cmp (fun _ => e1_int) fun _ => r1_cmp)) (b := barredD.any fun e => PyData.eqv e (.str x0)) fun _ => t1_test (e1_op (e1_var rfl dx) (e1_tup (ds := barredD) (a1_cons e1_str (a1_cons e1_str (a1_cons e1_str (a1_cons e1_str a1_nil)))) (by decide)) (r1_inT (neg := false) rfl (by decide)))) rfl) (fun z2 H3 a3 s3 => ?_) (fun z2 H3 a3 s3 => ?_)
        · refine s1_ret (K := K) (d := .bool false) a3 e1_bl fun y H4 a4 s4 d4 => no y H4 ?_ ⟨a4.ok, ((s1.trans s2).trans s3).trans s4⟩ (((s1.trans s2).trans s3).trans s4) d4
          rw [fe]
          cases h1 : lenOk x0 with
          | false => rfl
          | true =>
            rw [h1] at z2
            have z3 : (barredD.any fun e => PyData.eqv e (.str x0)) = true := z2
            rw [z3] <;> rfl
        refine rd_next ?_
        dsimp only
        rw [Bool.or_eq_false_iff, Bool.not_eq_false'] at z2
        have fe2 : isFieldD (.str x0) = (((signs x0).filter fun d => !lowD d).isEmpty) := by
          rw [fe, z2.1, z2.2, none_low]
          rfl
        refine s1_if (b := !((signs x0).filter fun d => !lowD d).isEmpty) (At.here a3.ok) (t1_test (E1.is (e1_op (d1 := .list ((signs x0).filter fun d => !lowD d)) (d2 := .list []) (E1.is (e1_lc (p := fun d => !lowD d) (f := fun d => d) (i1_str (e1_var rfl (dx.same s3))) (by unfold signs; rw [List.length_map, Array.length_toList]; exact hz) (fun _ => rfl) (fun U' M' v d e hm hd => ?gT) (fun U' M' v d e hm _ hd => e1_var rfl hd)) (by rw [List.map_id'])) (e1_lst a1_nil (by decide)) (r1_neD (shaped_flat fun d hd => signs_laid hk d (List.mem_filter.mp hd).1) shaped_nil)) (by rw [eqv_empty]))) (fun z3 H4 a4 s4 => ?_) (fun z3 H4 a4 s4 => ?_)
        case gT =>
          obtain ⟨c, hc, rfl⟩ := List.mem_map.mp hm
          exact t1_not (t1_chain (a := !decide ([c] < [97])) (b := !decide ([122] < [c])) e1_str (e1_var rfl hd) r1_leS (fun _ => e1_str) fun _ => r1_leS)
        · refine s1_ret (K := K) (d := .bool false) a4 e1_bl fun y H5 a5 s5 d5 => no y H5 ?_ ⟨a5.ok, (((s1.trans s2).trans s3).trans s4).trans s5⟩ ((((s1.trans s2).trans s3).trans s4).trans s5) d5
          rw [fe2]
          simpa using z3
        · refine hN _ _ ⟨⟨_, _, rfl⟩, all_snoc hdi fi ?_⟩ (a2.step a4.ok (s3.trans s4)) (s3.trans s4)
          rw [fe2]
          simpa using z3
    case hd =>
      rintro σ' H2 ⟨⟨x1, x2, rfl⟩, fi⟩ a2 s2
      rw [List.take_length] at fi
      obtain ⟨xs, rfl⟩ := fields_strs fi
      have ly : (xs.map (Sum.inr : Str → Key)).length = (strsD xs).length := by rw [List.length_map, strsD, List.length_map]
      have hv2 := hv.same (s1.trans s2)
      dsimp only
      refine s1_ret (K := K) (d := .bool (decide (xs.map (Sum.inr : Str → Key)).Nodup)) (At.here a2.ok) (E1.is (e1_op (e1_lenK (ks := xs.map (Sum.inr : Str → Key)) (e1_var rfl hv2) (by first | exact .inl (congrArg PyData.list (strs_keys xs)) | exact .inr (congrArg PyData.tuple (strs_keys xs))) (by omega)) (e1_len (e1_var rfl hv2) rfl (by omega)) r1_eqI) (congrArg PyData.bool (by rw [← kinds_dec, ly]))) fun y H3 a3 s3 d3 => out _ ?_ y H3 ⟨a3.ok, (s1.trans s2).trans s3⟩ ((s1.trans s2).trans s3) d3
      unfold gL
      rw [z, fi, Bool.true_and, Bool.true_and, strs_of]
      refine decide_eq_decide.mpr ⟨fun h => List.Pairwise.of_map _ (fun a b h e => h (congrArg _ e)) h, fun h => List.Pairwise.map _ (fun a b h e => h (Sum.inr.inj e)) h⟩
theorem ok_areN {f : Addr} {fd : FuncData} (F : Fun K "_law_are_numbers" "_law_are_numbers" s__law_are_numbers f fd) (T : Blt mg) : FnG P w K mg base 1 f fd ["thing_here"] (spX K 1 PAreN) := by
  refine fnG F sc__law_are_numbers (fun vs H Q E h => spX_len h) (fun cdv A outer s H vs Q E hr h => ?_)
  obtain ⟨U, n, es, e, ok, hd, hl0, ⟨d, rfl, near, rfl⟩, q⟩ := h
  obtain ⟨v, rfl, hv⟩ := dd1 hd
  have hu64 := hu64 hr.r
  have a : At U n (U.view H) H := At.here ok
  rcases near with ⟨ds, hb, hl, hf⟩ | ⟨no, _⟩
  rotate_left
  · refine ⟨_, pss_cons (ps_if (PW.pt (pw_or (pt_not (pt_val (pe_callB call_isiT (by rfl) T.isinstance (by decide +kernel) (pa_cons (pv 0) (pa_cons (pe_tup (pa_cons (pe_bltn (v := .ty "list") (by rfl) T.list (by decide +kernel) rfl) (pa_cons (pe_bltn (v := .ty "tuple") (by rfl) T.tuple (by decide +kernel) rfl) pa_nil))) pa_nil))))) (pw_or1 (pt_cmpR op_gt (pe_callB call_len (by rfl) T.len (by decide +kernel) (pa_cons (pv 0) pa_nil)) pe_int (nomark _)))))
        (pss_one (ps_ret pe_bl))
        pss_nil)
        (pss_cons (ps_for PassesOwn.never rfl (pi_list (pv 0)) (pg_name (i := 1) sc__law_are_numbers.nd rfl (.inl rfl))
        (pss_one (ps_if (PW.pt (pw_or (pt_not (pt_val (pe_callB call_isi (by rfl) T.isinstance (by decide +kernel) (pa_cons (pv 1) (pa_cons (pe_bltn (v := .ty "int") (by rfl) T.int (by decide +kernel) rfl) pa_nil))))) (pw_or (pt_val (pe_callB call_isi (by rfl) T.isinstance (by decide +kernel) (pa_cons (pv 1) (pa_cons (pe_bltn (v := .ty "bool") (by rfl) T.bool (by decide +kernel) rfl) pa_nil)))) (pw_or1 (pt_cmpR op_lt (pv 1) pe_int (nomark _))))))
          (pss_one (ps_ret pe_bl))
          pss_nil)))
        (pss_one (ps_ret (pe_cmpR op_eq (pe_lenK (pv 0) T.len T.set) (pe_callB call_len (by rfl) T.len (by decide +kernel) (pa_cons (pv 0) pa_nil)) (nomark _))))), ?_⟩
    refine s1_if (b := true) a (T1.is (t1_or (a := true) (T1.is (t1_not (t1_val (e1_isi2 (e1_var rfl hv) (kit_seq d)))) (by rw [no] <;> rfl)) (b := false) fun z => Bool.noConfusion z) rfl) (fun _ H1 a1 s1 => ?_) (fun z => Bool.noConfusion z)
    refine s1_ret (K := K) (d := .bool false) a1 e1_bl fun y H2 a2 s2 d2 => q y H2 a2.ok (s1.trans s2) ?_
    have e : gN d = false := by cases d <;> first | rfl | cases no
    rw [e]
    exact d2
  rcases hb with rfl | rfl
  · refine ⟨_, pss_cons (ps_if (PW.pt (pw_or (pt_not (pt_val (pe_callB call_isiT (by rfl) T.isinstance (by decide +kernel) (pa_cons (pv 0) (pa_cons (pe_tup (pa_cons (pe_bltn (v := .ty "list") (by rfl) T.list (by decide +kernel) rfl) (pa_cons (pe_bltn (v := .ty "tuple") (by rfl) T.tuple (by decide +kernel) rfl) pa_nil))) pa_nil))))) (pw_or1 (pt_cmpR op_gt (pe_callB call_len (by rfl) T.len (by decide +kernel) (pa_cons (pv 0) pa_nil)) pe_int (nomark _)))))
        (pss_one (ps_ret pe_bl))
        pss_nil)
        (pss_cons (ps_for PassesOwn.never rfl (pi_list (pv 0)) (pg_name (i := 1) sc__law_are_numbers.nd rfl (.inl rfl))
        (pss_one (ps_if (PW.pt (pw_or (pt_not (pt_val (pe_callB call_isi (by rfl) T.isinstance (by decide +kernel) (pa_cons (pv 1) (pa_cons (pe_bltn (v := .ty "int") (by rfl) T.int (by decide +kernel) rfl) pa_nil))))) (pw_or (pt_val (pe_callB call_isi (by rfl) T.isinstance (by decide +kernel) (pa_cons (pv 1) (pa_cons (pe_bltn (v := .ty "bool") (by rfl) T.bool (by decide +kernel) rfl) pa_nil)))) (pw_or1 (pt_cmpR op_lt (pv 1) pe_int (nomark _))))))
          (pss_one (ps_ret pe_bl))
          pss_nil)))
        (pss_one (ps_ret (pe_cmpR op_eq (pe_lenK (pv 0) T.len T.set) (pe_callB call_len (by rfl) T.len (by decide +kernel) (pa_cons (pv 0) pa_nil)) (nomark _))))), ?_⟩
    have out : ∀ (b : Bool), b = gNL ds → ∀ v H', At U n (U.view H) H' → Same (U.view H) (U.view H') → Dd K (U.view H') v (.bool b) → Q v H' := fun b e v H1 a1 s1 d1 => q v H1 a1.ok s1 (by
      show Dd K (U.view H1) v (.bool (gNL ds))
      rw [← e]
      exact d1)
    refine s1_if (b := decide (8 < ds.length)) a (T1.is (t1_or (a := false) (T1.is (t1_not (b := true) (t1_val (e1_isi2 (e1_var rfl hv) (kit_seq (.list ds))))) rfl) (b := decide (8 < ds.length)) fun _ => t1_test (E1.is (e1_op (e1_len (e1_var rfl hv) rfl (by omega)) e1_int r1_cmp) (congrArg PyData.bool (decide_eq_decide.mpr (by omega))))) rfl) (fun z H1 a1 s1 => ?_) (fun z H1 a1 s1 => ?_)
    · refine s1_ret (K := K) (d := .bool false) a1 e1_bl fun y H2 a2 s2 d2 => out false ?_ y H2 a2 (s1.trans s2) d2
      unfold gNL
      have := of_decide_eq_true z
      rw [decide_eq_false (by omega), Bool.false_and]
    have z8 := of_decide_eq_false z
    refine rd_next ?_
    dsimp only
    refine rd_seq ?_
    refine s1_for (K := K) a1 (i1_list (e1_var rfl hv)) (fun i σ => (∃ x1, σ = [some v, x1]) ∧ (ds.take i).all isCountD = true) ⟨⟨_, rfl⟩, rfl⟩ ?hs ?hd
    case hs =>
      rintro i σ' H2 x d N hdi ⟨⟨x1, rfl⟩, fi⟩ a2 s2 dx hN
      refine s1_if (b := !isCountD d) (At.here a2.ok) (T1.is (t1_or (a := !isIntD d) (t1_not (t1_val (e1_isi (e1_var rfl dx) (kit_int d)))) (b := isBoolD d || !leaf0 d) fun y1 => t1_or (a := isBoolD d) (t1_val (e1_isi (e1_var rfl dx) (kit_bool d))) (b := !leaf0 d) fun y2 => ?gB) (by unfold isCountD; cases isIntD d <;> cases isBoolD d <;> cases leaf0 d <;> rfl)) (fun z2 H3 a3 s3 => ?_) (fun z2 H3 a3 s3 => ?_)
      case gB =>
        obtain ⟨j, rfl⟩ : ∃ j, d = .int j := by
          cases d <;> first | exact ⟨_, rfl⟩ | exact Bool.noConfusion y1 | exact Bool.noConfusion y2
        refine t1_test (E1.is (e1_op (e1_var rfl dx) e1_int r1_cmp) (congrArg PyData.bool ?_))
        show decide (j < 0) = !decide (0 ≤ j)
        by_cases h : j < 0
        · rw [decide_eq_true h, decide_eq_false (by omega)] <;> rfl
        · rw [decide_eq_false h, decide_eq_true (by omega)] <;> rfl
      · refine s1_ret (K := K) (d := .bool false) a3 e1_bl fun y H4 a4 s4 d4 => out false ?_ y H4 ⟨a4.ok, ((s1.trans s2).trans s3).trans s4⟩ (((s1.trans s2).trans s3).trans s4) d4
        unfold gNL
        rw [all_no hdi (by simpa using z2), Bool.false_and, Bool.and_false]
      · exact hN _ _ ⟨⟨_, rfl⟩, all_snoc hdi fi (by simpa using z2)⟩ (a2.step a3.ok s3) s3
    case hd =>
      rintro σ' H2 ⟨⟨x1, rfl⟩, fi⟩ a2 s2
      rw [List.take_length] at fi
      obtain ⟨xs, rfl, _⟩ := counts_ints fi
      have ly : (xs.map (Sum.inl : Int → Key)).length = (intsD xs).length := by rw [List.length_map, intsD, List.length_map]
      have hv2 := hv.same (s1.trans s2)
      dsimp only
      refine s1_ret (K := K) (d := .bool (decide (xs.map (Sum.inl : Int → Key)).Nodup)) (At.here a2.ok) (E1.is (e1_op (e1_lenK (ks := xs.map (Sum.inl : Int → Key)) (e1_var rfl hv2) (by first | exact .inl (congrArg PyData.list (ints_keys xs)) | exact .inr (congrArg PyData.tuple (ints_keys xs))) (by omega)) (e1_len (e1_var rfl hv2) rfl (by omega)) r1_eqI) (congrArg PyData.bool (by rw [← kinds_dec, ly]))) fun y H3 a3 s3 d3 => out _ ?_ y H3 ⟨a3.ok, (s1.trans s2).trans s3⟩ ((s1.trans s2).trans s3) d3
      unfold gNL
      rw [decide_eq_true (show (intsD xs).length ≤ 8 by omega), fi, Bool.true_and, Bool.true_and, ints_of]
      refine decide_eq_decide.mpr ⟨fun h => List.Pairwise.of_map _ (fun a b h e => h (congrArg _ e)) h, fun h => List.Pairwise.map _ (fun a b h e => h (Sum.inl.inj e)) h⟩
  · refine ⟨_, pss_cons (ps_if (PW.pt (pw_or (pt_not (pt_val (pe_callB call_isiT (by rfl) T.isinstance (by decide +kernel) (pa_cons (pv 0) (pa_cons (pe_tup (pa_cons (pe_bltn (v := .ty "list") (by rfl) T.list (by decide +kernel) rfl) (pa_cons (pe_bltn (v := .ty "tuple") (by rfl) T.tuple (by decide +kernel) rfl) pa_nil))) pa_nil))))) (pw_or1 (pt_cmpR op_gt (pe_callB call_len (by rfl) T.len (by decide +kernel) (pa_cons (pv 0) pa_nil)) pe_int (nomark _)))))
        (pss_one (ps_ret pe_bl))
        pss_nil)
        (pss_cons (ps_for PassesOwn.never rfl (pi_tup (pv 0)) (pg_name (i := 1) sc__law_are_numbers.nd rfl (.inl rfl))
        (pss_one (ps_if (PW.pt (pw_or (pt_not (pt_val (pe_callB call_isi (by rfl) T.isinstance (by decide +kernel) (pa_cons (pv 1) (pa_cons (pe_bltn (v := .ty "int") (by rfl) T.int (by decide +kernel) rfl) pa_nil))))) (pw_or (pt_val (pe_callB call_isi (by rfl) T.isinstance (by decide +kernel) (pa_cons (pv 1) (pa_cons (pe_bltn (v := .ty "bool") (by rfl) T.bool (by decide +kernel) rfl) pa_nil)))) (pw_or1 (pt_cmpR op_lt (pv 1) pe_int (nomark _))))))
          (pss_one (ps_ret pe_bl))
          pss_nil)))
        (pss_one (ps_ret (pe_cmpR op_eq (pe_lenK (pv 0) T.len T.set) (pe_callB call_len (by rfl) T.len (by decide +kernel) (pa_cons (pv 0) pa_nil)) (nomark _))))), ?_⟩
    have out : ∀ (b : Bool), b = gNL ds → ∀ v H', At U n (U.view H) H' → Same (U.view H) (U.view H') → Dd K (U.view H') v (.bool b) → Q v H' := fun b e v H1 a1 s1 d1 => q v H1 a1.ok s1 (by
      show Dd K (U.view H1) v (.bool (gNL ds))
      rw [← e]
      exact d1)
    refine s1_if (b := decide (8 < ds.length)) a (T1.is (t1_or (a := false) (T1.is (t1_not (b := true) (t1_val (e1_isi2 (e1_var rfl hv) (kit_seq (.tuple ds))))) rfl) (b := decide (8 < ds.length)) fun _ => t1_test (E1.is (e1_op (e1_len (e1_var rfl hv) rfl (by omega)) e1_int r1_cmp) (congrArg PyData.bool (decide_eq_decide.mpr (by omega))))) rfl) (fun z H1 a1 s1 => ?_) (fun z H1 a1 s1 => ?_)
    · refine s1_ret (K := K) (d := .bool false) a1 e1_bl fun y H2 a2 s2 d2 => out false ?_ y H2 a2 (s1.trans s2) d2
      unfold gNL
      have := of_decide_eq_true z
      rw [decide_eq_false (by omega), Bool.false_and]
    have z8 := of_decide_eq_false z
    refine rd_next ?_
    dsimp only
    refine rd_seq ?_
    refine s1_for (K := K) a1 (i1_tup (e1_var rfl hv)) (fun i σ => (∃ x1, σ = [some v, x1]) ∧ (ds.take i).all isCountD = true) ⟨⟨_, rfl⟩, rfl⟩ ?hs ?hd
    case hs =>
      rintro i σ' H2 x d N hdi ⟨⟨x1, rfl⟩, fi⟩ a2 s2 dx hN
      refine s1_if (b := !isCountD d) (At.here a2.ok) (T1.is (t1_or (a := !isIntD d) (t1_not (t1_val (e1_isi (e1_var rfl dx) (kit_int d)))) (b := isBoolD d || !leaf0 d) fun y1 => t1_or (a := isBoolD d) (t1_val (e1_isi (e1_var rfl dx) (kit_bool d))) (b := !leaf0 d) fun y2 => ?gB) (by unfold isCountD; cases isIntD d <;> cases isBoolD d <;> cases leaf0 d <;> rfl)) (fun z2 H3 a3 s3 => ?_) (fun z2 H3 a3 s3 => ?_)
      case gB =>
        obtain ⟨j, rfl⟩ : ∃ j, d = .int j := by
          cases d <;> first | exact ⟨_, rfl⟩ | exact Bool.noConfusion y1 | exact Bool.noConfusion y2
        refine t1_test (E1.is (e1_op (e1_var rfl dx) e1_int r1_cmp) (congrArg PyData.bool ?_))
        show decide (j < 0) = !decide (0 ≤ j)
        by_cases h : j < 0
        · rw [decide_eq_true h, decide_eq_false (by omega)] <;> rfl
        · rw [decide_eq_false h, decide_eq_true (by omega)] <;> rfl
      · refine s1_ret (K := K) (d := .bool false) a3 e1_bl fun y H4 a4 s4 d4 => out false ?_ y H4 ⟨a4.ok, ((s1.trans s2).trans s3).trans s4⟩ (((s1.trans s2).trans s3).trans s4) d4
        unfold gNL
        rw [all_no hdi (by simpa using z2), Bool.false_and, Bool.and_false]
      · exact hN _ _ ⟨⟨_, rfl⟩, all_snoc hdi fi (by simpa using z2)⟩ (a2.step a3.ok s3) s3
    case hd =>
      rintro σ' H2 ⟨⟨x1, rfl⟩, fi⟩ a2 s2
      rw [List.take_length] at fi
      obtain ⟨xs, rfl, _⟩ := counts_ints fi
      have ly : (xs.map (Sum.inl : Int → Key)).length = (intsD xs).length := by rw [List.length_map, intsD, List.length_map]
      have hv2 := hv.same (s1.trans s2)
      dsimp only
      refine s1_ret (K := K) (d := .bool (decide (xs.map (Sum.inl : Int → Key)).Nodup)) (At.here a2.ok) (E1.is (e1_op (e1_lenK (ks := xs.map (Sum.inl : Int → Key)) (e1_var rfl hv2) (by first | exact .inl (congrArg PyData.list (ints_keys xs)) | exact .inr (congrArg PyData.tuple (ints_keys xs))) (by omega)) (e1_len (e1_var rfl hv2) rfl (by omega)) r1_eqI) (congrArg PyData.bool (by rw [← kinds_dec, ly]))) fun y H3 a3 s3 d3 => out _ ?_ y H3 ⟨a3.ok, (s1.trans s2).trans s3⟩ ((s1.trans s2).trans s3) d3
      unfold gNL
      rw [decide_eq_true (show (intsD xs).length ≤ 8 by omega), fi, Bool.true_and, Bool.true_and, ints_of]
      refine decide_eq_decide.mpr ⟨fun h => List.Pairwise.of_map _ (fun a b h e => h (congrArg _ e)) h, fun h => List.Pairwise.map _ (fun a b h e => h (Sum.inl.inj e)) h⟩
end
end Mw
namespace Mw
open PySem PySem.Spec PyProof.Rows L2
/-! ### near values are lists of fields, or not -/
def srtN (xs : List Str) : List Str := xs.mergeSort fun a b => decide (rk a ≤ rk b)
theorem srtN_perm (xs : List Str) : (srtN xs).Perm xs := List.mergeSort_perm _ _
theorem srtN_asc (xs : List Str) : (srtN xs).Pairwise (fun a b => rk a ≤ rk b) := by
  have := List.pairwise_mergeSort (le := fun a b : Str => decide (rk a ≤ rk b)) (fun a b c h1 h2 => by simp only [decide_eq_true_eq] at *; omega) (fun a b => by simp only [Bool.or_eq_true, decide_eq_true_eq]; omega) xs
  exact this.imp fun h => of_decide_eq_true h
theorem fn_parts {d : PyData} (h : fnB d = true) : okd 2 64 d = true ∧ shortD d = true ∧ (isFieldD d = true → inUniv d = true) := by
  unfold fnB at h
  simp only [Bool.and_eq_true, Bool.or_eq_true, Bool.not_eq_true'] at h
  refine ⟨h.1, h.2.1, fun e => ?_⟩
  rcases h.2.2.2 with z | z
  · rw [e] at z
    cases z
  · exact z
theorem nf_list {d : PyData} {ds : List PyData} (hb : bothD d ds) (l : ds.length ≤ 8) (hf : ds.all fnB = true) : (gL ds = true ∧ ∃ names, goodF d names) ∨ (gL ds = false ∧ badF d) := by
  have sh : ds.all shortD = true := List.all_eq_true.mpr fun e he => (fn_parts (List.all_eq_true.mp hf e he)).2.1
  by_cases c1 : 1 ≤ ds.length ∧ ds.length ≤ 3
  · cases c2 : ds.all isFieldD with
    | false => exact .inr ⟨by unfold gL; rw [c2, Bool.false_and, Bool.and_false], .inr ⟨ds, hb, by omega, sh, .inr (.inl c2)⟩⟩
    | true =>
      obtain ⟨xs, rfl⟩ := fields_strs c2
      have lx : (strsD xs).length = xs.length := List.length_map ..
      by_cases c3 : xs.Nodup
      · refine .inl ⟨?_, srtN xs, xs, ⟨?_, ?_, ?_, ?_, srtN_asc xs⟩, (srtN_perm xs).symm, hb⟩
        · unfold gL
          rw [c2, strs_of, decide_eq_true c1.1, decide_eq_true c1.2, decide_eq_true c3] <;> rfl
        · rw [(srtN_perm xs).length_eq]
          omega
        · rw [(srtN_perm xs).length_eq]
          omega
        · exact (srtN_perm xs).nodup_iff.mpr c3
        · intro x hx
          have hx2 : PyData.str x ∈ strsD xs := List.mem_map.mpr ⟨x, (srtN_perm xs).mem_iff.mp hx, rfl⟩
          have z := (fn_parts (List.all_eq_true.mp hf _ hx2)).2.2 (List.all_eq_true.mp c2 _ hx2)
          exact of_decide_eq_true z
      · refine .inr ⟨?_, .inr ⟨_, hb, by omega, sh, .inr (.inr ⟨xs, rfl, c3⟩)⟩⟩
        unfold gL
        rw [strs_of, decide_eq_false c3, Bool.and_false, Bool.and_false]
  · refine .inr ⟨?_, .inr ⟨ds, hb, by omega, sh, .inl c1⟩⟩
    unfold gL
    by_cases z : 1 ≤ ds.length
    · rw [decide_eq_false (show ¬ ds.length ≤ 3 by omega), Bool.and_false, Bool.false_and]
    · rw [decide_eq_false z, Bool.false_and, Bool.false_and]
theorem nf_kind {d : PyData} (h : NF d) : (gF d = true ∧ ∃ names, goodF d names) ∨ (gF d = false ∧ badF d) := by
  rcases h with ⟨ds, hb, hl, hf⟩ | ⟨no, _⟩
  · have e : gF d = gL ds := by rcases hb with rfl | rfl <;> rfl
    rw [e]
    exact nf_list hb hl hf
  · exact .inr ⟨(by cases d <;> first | rfl | cases no), .inl no⟩
theorem nn_list {d : PyData} {ds : List PyData} (hb : bothD d ds) (l : ds.length ≤ 12) (hf : ds.all nnB = true) : (gNL ds = true ∧ ∃ xs, goodN d xs) ∨ (gNL ds = false ∧ badN d) := by
  by_cases c1 : 8 < ds.length
  · refine .inr ⟨?_, .inr ⟨ds, hb, by omega, .inl c1⟩⟩
    unfold gNL
    rw [decide_eq_false (show ¬ ds.length ≤ 8 by omega), Bool.false_and]
  · cases c2 : ds.all isCountD with
    | false => exact .inr ⟨by unfold gNL; rw [c2, Bool.false_and, Bool.and_false], .inr ⟨ds, hb, by omega, .inr (.inl c2)⟩⟩
    | true =>
      obtain ⟨xs, rfl, pos⟩ := counts_ints c2
      have lx : (intsD xs).length = xs.length := List.length_map ..
      by_cases c3 : xs.Nodup
      · refine .inl ⟨?_, xs, ⟨by omega, c3, fun x hx => ⟨pos x hx, ?_⟩⟩, hb⟩
        · unfold gNL
          rw [c2, ints_of, decide_eq_true (show (intsD xs).length ≤ 8 by omega), decide_eq_true c3] <;> rfl
        · have hx2 : PyData.int x ∈ intsD xs := List.mem_map.mpr ⟨x, hx, rfl⟩
          have z := List.all_eq_true.mp hf _ hx2
          have z2 := List.all_eq_true.mp c2 _ hx2
          unfold nnB at z
          rw [z2] at z
          simp only [Bool.and_eq_true, Bool.not_true, Bool.false_or, smallB, decide_eq_true_eq] at z
          have e1 : (10 : Int) ^ 12 = 1000000000000 := by decide
          have e2 : (10 : Int) ^ 13 = 10000000000000 := by decide
          omega
      · refine .inr ⟨?_, .inr ⟨_, hb, by omega, .inr (.inr ⟨xs, rfl, c3⟩)⟩⟩
        unfold gNL
        rw [ints_of, decide_eq_false c3, Bool.and_false, Bool.and_false]
theorem nn_kind {d : PyData} (h : NN d) : (gN d = true ∧ ∃ xs, goodN d xs) ∨ (gN d = false ∧ badN d) := by
  rcases h with ⟨ds, hb, hl, hf⟩ | ⟨no, _⟩
  · have e : gN d = gNL ds := by rcases hb with rfl | rfl <;> rfl
    rw [e]
    exact nn_list hb hl hf
  · exact .inr ⟨(by cases d <;> first | rfl | cases no), .inl no⟩
theorem okd_near {d : PyData} (h : NF d ∨ NN d) : okd 4 800 d = true := by
  have main : ∀ ds, bothD d ds → ds.length ≤ 12 → (∀ e ∈ ds, okd 2 64 e = true) → okd 4 800 d = true := fun ds hb hl he => by
    obtain ⟨o1, o2⟩ := okd_list (k := 2) (m := 64) (L := 12) he hl
    rcases hb with rfl | rfl
    · exact okd_more o1 (by decide) (by decide)
    · exact okd_more o2 (by decide) (by decide)
  rcases h with (⟨ds, hb, hl, hf⟩ | ⟨_, z⟩) | (⟨ds, hb, hl, hf⟩ | ⟨_, z⟩)
  · exact main ds hb (by omega) fun e he => (fn_parts (List.all_eq_true.mp hf e he)).1
  · exact okd_more z (by decide) (by decide)
  · refine main ds hb hl fun e he => ?_
    have := List.all_eq_true.mp hf e he
    unfold nnB at this
    rw [Bool.and_eq_true] at this
    exact this.1
  · exact okd_more z (by decide) (by decide)
theorem fit_pair {d e : PyData} (h1 : NF d) (h2 : NN e) : Fit (.list [d, e]) := by
  refine okd_fit (k := 5) (m := 2 * 801) (okd_list (k := 4) (m := 800) (L := 2) (fun x hx => ?_) (Nat.le_refl _)).1 (by decide) (by decide)
  rcases List.mem_cons.mp hx with rfl | hx
  · exact okd_near (.inl h1)
  · rw [List.mem_singleton.mp hx]
    exact okd_near (.inr h2)
/-! ### a word for a job -/
section
variable {K : PySem.W.Frag} {U : Wo} {W : Wd} {M : Hp} {σ : L2.St} {n k m : Nat} {t : TA} {S : List PyData → Prop} {P : List PyData → Out → Prop}
def JobOk (U : Wo) (M : Hp) (k : Nat) (tb : XK → TE) (σ : L2.St) (r : Option Addr) : Prop := ∀ n H, At U n M H → n + k ≤ most → ∀ (E : XK) (Q : VK),
  (r = none → ∀ v H', U.ok (n + k) H' → Same (U.view H) (U.view H') → Q v H') → (∀ C, r = some C → ∀ H', U.ok (n + k) H' → Same (U.view H) (U.view H') → E (.ref C) none H') → tb E σ H Q
def outR : Out → Option Addr → Prop
  | .val _, r => r = none
  | .err C, r => r = some C
theorem job_Y {r : Option Addr} (h : A3 K U M k t σ S) (hs : ∀ ds, S ds → ds.length = m ∧ ∃ o, P ds o ∧ outR o r) : JobOk U M k (fun E => tGoE (spY K m P) E t) σ r := fun n H a hn E Q q1 q2 =>
  h n H a hn _ fun vs ds H1 sd ok1 s1 d1 => by
    obtain ⟨hl, o, hp, ho⟩ := hs ds sd
    refine ⟨U, n + k, ds, o, ok1, d1, hl, hp, ?_⟩
    cases o with
    | val e => exact fun v H2 ok2 s2 _ => q1 ho v H2 ok2 (s1.trans s2)
    | err C => exact fun H2 ok2 s2 => q2 C ho H2 ok2 (s1.trans s2)
theorem job_YK {r : Option Addr} {j : Nat} {gV : List V → List V} {gD : List PyData → List PyData} (h : A3 K U M k t σ S) (g : ∀ H vs ds, DdAll K H vs ds → DdAll K H (gV vs) (gD ds)) (hs : ∀ ds, S ds → ds.length = j ∧ (gD ds).length = m ∧ ∃ o, P (gD ds) o ∧ outR o r) :
    JobOk U M k (fun E => tGoEK j (spY K m P) E gV t) σ r := fun n H a hn E Q q1 q2 =>
  h n H a hn _ fun vs ds H1 sd ok1 s1 d1 => by
    obtain ⟨hj, hl, o, hp, ho⟩ := hs ds sd
    refine ⟨d1.len.trans hj, U, n + k, gD ds, o, ok1, g _ _ _ d1, hl, hp, ?_⟩
    cases o with
    | val e => exact fun v H2 ok2 s2 _ => q1 ho v H2 ok2 (s1.trans s2)
    | err C => exact fun H2 ok2 s2 => q2 C ho H2 ok2 (s1.trans s2)
end
/-- the world of draws, the table of code objects out of sight -/
abbrev wT (W : Wd) (P : Addr) (ps : Array Value) : Wo := (wd W).hide P (.tbl ps)
theorem code_seen {W : Wd} {P : Addr} {ps : Array Value} {n : Nat} {H : Hp} {c : Addr} {q : Str} (ok : (wT W P ps).ok n H) (h : H c = some (LamX.CodeO c q)) : (wT W P ps).view H c = some (LamX.CodeO c q) := by
  obtain ⟨⟨r, t, ns, cs, st, _⟩, hP⟩ := ok
  have other : ∀ {b : Addr} {o : HO}, H b = some o → (∀ φ, o ≠ .ext φ) → c ≠ b := fun {b o} e no z => by
    rw [z, e] at h
    exact no _ (Option.some.inj h)
  refine hide_at (mk_of h ?_ ?_ ?_) ?_
  · exact other st.d fun _ z => by cases z
  · exact other st.w fun _ z => by cases z
  · exact other st.c fun _ z => by cases z
  · exact other (mk_le W H _ _ hP) fun _ z => by cases z
theorem tab_on {W : Wd} {P : Addr} {ps : Array Value} {n : Nat} {H H2 : Hp} {q : Str} (ok : (wT W P ps).ok n H) (hT : LamX.TabS H P q) (s : Same ((wT W P ps).view H) ((wT W P ps).view H2)) (ok2 : (wT W P ps).ok n H2) : LamX.TabS H2 P q := by
  obtain ⟨ps', h1, h2, h3⟩ := hT
  have e1 := (mk_le W H _ _ ok.2).symm.trans h1
  cases e1
  refine ⟨ps, mk_le W H2 _ _ ok2.2, h2, fun pos cv hc => ?_⟩
  obtain ⟨c, e2, e3⟩ := h3 pos cv hc
  exact ⟨c, e2, (wT W P ps).le _ _ _ (s _ _ (code_seen ok e3))⟩
/-- the table has grown -/
theorem grown_at {W : Wd} {P : Addr} {ps : Array Value} {n : Nat} {M H H1 : Hp} {c' : Addr} {q : Str} (a : At (wT W P ps) n M H) (g : Grown H H1 P c' q) : ∃ ps', At (wT W P ps') n M H1 ∧ Same (hideV P (mk W H)) (hideV P (mk W H1)) := by
  rcases g.is with rfl | ⟨p0, p1, h1, h2, rfl⟩
  · exact ⟨ps, a, Same.refl _⟩
  · obtain ⟨ok1, f1, o1⟩ := (wd W).own (o := .tbl p1) a.ok.1 a.ok.2 rfl
    have nP : c' ≠ P := fun z => by
      rw [z, h1] at h2
      cases h2
    obtain ⟨ok2, s2, f2, _⟩ := (wd W).new (o := LamX.CodeO c' q) ok1 (p := c') (by rw [upd_ne nP]; exact h2) rfl
    have sm : Same (hideV P (mk W H)) (hideV P (mk W (upd (upd H P (.tbl p1)) c' (LamX.CodeO c' q)))) := fun b u e => by
      obtain ⟨z1, z2⟩ := hide_of e
      exact hide_at (s2 _ _ (o1 b u z1 z2)) z1
    exact ⟨p1, ⟨⟨ok2, s2 _ _ f1⟩, a.up.trans sm⟩, sm⟩
theorem word_step {K : PySem.W.Frag} {W : Wd} {P CF CN : Addr} {ps : Array Value} {n k : Nat} {M H : Hp} {q : Str} {σ : L2.St} {tb : XK → TE} {r : Option Addr} {wd0 : Str} {Q : VK} (a : At (wT W P ps) n M H) (hT : LamX.TabS H P q) (hn : n + k ≤ most)
    (kind : (r = none ∧ wd0 = "none") ∨ (r = some CF ∧ wd0 = "fields") ∨ (r = some CN ∧ wd0 = "numbers")) (job : ∀ ps', JobOk (wT W P ps') M k tb σ r)
    (go : ∀ v H2 ps', At (wT W P ps') (n + k) M H2 → LamX.TabS H2 P q → Same (hideV P (mk W H)) (hideV P (mk W H2)) → Dd K (hideV P (mk W H2)) v (.str wd0) → Q v H2) : tLamJ P q (TWord K CF CN) tb σ H Q := by
  refine ⟨hT, fun H1 c' g => ?_⟩
  obtain ⟨ps1, a1, s1⟩ := grown_at a g
  have seen : ∀ H2, (wT W P ps1).ok (n + k) H2 → Same ((wT W P ps1).view H1) ((wT W P ps1).view H2) → LamX.TabS H2 P q := fun H2 ok2 s2 => tab_on ((wT W P ps1).mono a1.ok (Nat.le_add_right _ _)) g.tab s2 ok2
  refine ⟨fun cls d H2 => d = none ∧ (∃ C, r = some C ∧ cls = .ref C) ∧ (wT W P ps1).ok (n + k) H2 ∧ Same ((wT W P ps1).view H1) ((wT W P ps1).view H2), fun v H2 => r = none ∧ (wT W P ps1).ok (n + k) H2 ∧ Same ((wT W P ps1).view H1) ((wT W P ps1).view H2), ⟨g.code, ?_⟩, ?_, ?_⟩
  · exact job ps1 n H1 a1 hn _ _ (fun e v H2 ok2 s2 => ⟨e, ok2, s2⟩) (fun C e H2 ok2 s2 => ⟨rfl, ⟨C, e, rfl⟩, ok2, s2⟩)
  · rintro v H2 ⟨e, ok2, s2⟩
    have w0 : wd0 = "none" := by
      rcases kind with ⟨_, z⟩ | ⟨z, _⟩ | ⟨z, _⟩
      · exact z
      · rw [e] at z
        cases z
      · rw [e] at z
        cases z
    subst w0
    exact go _ H2 ps1 ⟨ok2, a1.up.trans s2⟩ (seen H2 ok2 s2) (s1.trans s2) (.str _)
  · rintro cls d H2 ⟨rfl, ⟨C, e, rfl⟩, ok2, s2⟩
    refine ⟨rfl, wT W P ps1, n + k, wd0, ok2, ?_, fun v H3 ok3 s3 d3 => go v H3 ps1 ⟨ok3, (a1.up.trans s2).trans s3⟩ (seen H3 ok3 (s2.trans s3)) ((s1.trans s2).trans s3) d3⟩
    rcases kind with ⟨z, _⟩ | ⟨z, w0⟩ | ⟨z, w0⟩
    · rw [e] at z
      cases z
    · rw [e] at z
      cases z
      exact .inl ⟨rfl, w0⟩
    · rw [e] at z
      cases z
      exact .inr ⟨rfl, w0⟩
end Mw
/-! ### the law's own call, its table of code objects told -/
namespace Mw
open PySem PySem.Spec PyProof.Rows L2
/-- as fnG, the code object of the def told -/
theorem fnGc {P : Program} {w : World} {K : PySem.W.Frag} {mg : Str → Option Value} {base : Heap} {x qual : Str} {st : Stmt} {f : Addr} {N ps : List Str} {k : Nat} {sp : Sp} {oc dV kV doc pm cdv ct : Value} {an od : Option Addr} {osl : Array (Option Value)}
    (look : K.lookup f = some ⟨oc, od, .func (PySem.W.fnOf x qual (defArgs st) (defBody st) (defScope st) dV kV doc pm an cdv ct), osl⟩) (code : PySem.W.codeIn K cdv qual = true) (S : FnScope N ps (defScope st)) (ln : ∀ vs H Q E, sp vs H Q E → vs.length = ps.length)
    (body : ∀ (A : Around) (outer : List Env) (s : Shared) (H : Hp) (vs : List V) (Q : VK) (E : XK), Rm k (A.deeper (envOfC qual (defScope st) s.heap.objs.size f cdv)) → sp vs H Q E →
      ∃ t, PSs (cxOf CX0 P w K mg base N qual (defScope st) f cdv A outer s H E).nox (defBody st) t ∧ t { nx := fun _ H' => Q .non H', rt := Q } (start N vs) H) :
    FnG P w K mg base (k + 1) f (PySem.W.fnOf x qual (defArgs st) (defBody st) (defScope st) dV kV doc pm an cdv ct) ps sp := by
  refine ⟨ln, ?_⟩
  intro A outer s H args us vs Q E room e0 binds rel promise
  have stay : ∀ b o, base.get? b = some o → s.heap.get? b = some o := fun b o z => (e0.bs b o z).1
  have inK : K.In s.heap := e0.mod.kin.keeps stay
  have named : ∀ y ∈ ps.zip us, (defScope st).names.lookup y.1 = some .local ∨ ((defScope st).names.lookup y.1 = some .cell ∧ ((cellsFrom (s.heap.objs.size + 1) (defScope st).names []).lookup y.1).isSome = true) := by
    intro y hy
    have hp : y.1 ∈ ps := (List.of_mem_zip (a := y.1) (b := y.2) hy).1
    cases S.par y.1 hp with
    | inl z => exact .inl z
    | inr z => exact .inr ⟨z, PySem.W.cellsFrom_some _ _ _ (.inl z)⟩
  refine codeAny_call_function room.r.depth (inK _ _ look) rfl S.co S.gen rfl (PySem.W.codeRec_of inK code) (binds _ _ _ _ ?_)
  refine wpAny_newFunctionEnv_cells S.kind named ?_
  intro env same s1 began
  cases same
  refine ⟨(e0.mod.nolimit.keeps stay).keeps began.toInCall.keep, codeAny_func ?_⟩
  obtain ⟨t, ht, hq⟩ := body A outer s H vs Q E ⟨room.r.deeper _, room.g⟩ promise
  have I := inv_start (CX := CX0) (E := E) (qual := qual) (N := N) S room.r.hd e0 (ln _ _ _ _ promise) rel began
  have leave : ∀ {σ' : L2.St} {H' : Hp} {v : V} {u : Value} {s' : Shared}, Inv (cxOf CX0 P w K mg base N qual (defScope st) f cdv A outer s H E) [] σ' H' s' → RelV v u → Q v H' → CE outer P w H s Q u s' := by
    intro σ' H' v u s' J rv q
    exact ⟨v, H', J.os, J.bare, J.base, J.hok, rv, q⟩
  refine wpAny_mono (ht.nox.run [] s1 (start N vs) H _ I hq) ?_ ?_
  · intro fl s' done
    have z := body_end done
    cases fl with
    | next =>
      obtain ⟨v, σ', H', J, r, q⟩ := z
      exact leave J r q
    | ret u =>
      obtain ⟨v, σ', H', J, r, q⟩ := z
      exact leave J r q
    | brk => exact z.elim
    | cont => exact z.elim
  · intro e s' z
    exact z
/-- nothing is tracked but the script, perhaps, and the table -/
def OnlyT (P : Addr) (H : Hp) : Prop := ∀ b, H b = none ∨ b = P ∨ ∃ ob xs, H b = some (.frz ob (.lst xs))
section
variable {Pg : Program} {w : World} {K : PySem.W.Frag} {mg mb : Str → Option Value}
theorem law_atT {k : Nat} {fa a c P : Addr} {fd : FuncData} {x : Str} {sp : Sp} {s₁ : Shared} {H : Hp} (inK : K.In s₁.heap) (G : s₁.heap.Ns mainGlobals mg) (B : s₁.heap.Ns builtinsNs mb) (B2 : ∀ x : Str, x ≠ "__name__" → mb x = bootBuiltins x) (lim : s₁.heap.NoLimit) (gens : s₁.gens = #[])
    (tabl : s₁.heap.get? P = some (PySem.W.tabObj #[])) (noT : K.lookup P = none) (C : PySem.W.CodeHd s₁.heap c P)
    (main : ∃ (bm : Addr) (ob : Obj), mg "__builtins__" = some (.ref bm) ∧ bm ≠ builtinsNs ∧ s₁.heap.get? bm = some ob ∧ ob.cls = .type "module" ∧ ob.dict = some builtinsNs ∧ ob.data = .plain)
    (list : ∃ u n, s₁.heap.get? a = some { cls := .type "list", data := .seq u n }) (room : Rm k callerA)
    (F : ∀ base : Heap, K.In base → base.Ns mainGlobals mg → (∃ m, base.Ns sysModules m) → LamX.TabB base mg c P → FnG Pg w K mg base k fa fd [x] sp) (sysm : ∃ m, s₁.heap.Ns sysModules m) (binds : ∀ (s : Shared) (u : Value), BindsTo s fd ⟨[u], []⟩ [(x, u)])
    (sp0 : sp [.ref a] H (fun v _ => v = .bl true) fun _ _ _ => False) (tabH : H P = some (.tbl #[])) (only : OnlyT P H) (ok : HOk Pg w H s₁.heap) (alone : ∀ b, H b ≠ none → b = a ∨ b = P) (mine : H a ≠ none → K.lookup a = none) :
    codeAny (model Pg w) callerA (.call (.ref fa) ⟨[.ref a], []⟩) (fun r s' => r = .ok (.ret (.bool true)) ∧ OldK s₁.heap s'.heap ∧ s'.os = s₁.os ∧ AllBare s'.gens) s₁ := by
  obtain ⟨lu, ln, la⟩ := list
  have out : ∀ {b : Addr} {o : Obj}, s₁.heap.get? b = some o → (∀ u n, o.data ≠ .seq u n) → o.data ≠ .fields #[] → H b = none := by
    intro b o e h1 h2
    apply Classical.byContradiction
    intro z
    rcases alone b z with rfl | rfl
    · rw [la] at e
      cases e
      exact h1 _ _ rfl
    · rw [tabl] at e
      cases e
      exact h2 rfl
  have free : ∀ {b : Addr} {o : Obj} {es : Array DictEntry} {ep : Nat}, s₁.heap.get? b = some o → o.data = .dict es ep → H b = none := by
    intro b o es ep e d
    refine out e ?_ ?_
    · intro u n z
      rw [d] at z
      cases z
    · intro z
      rw [d] at z
      cases z
  have ns : ∀ {b : Addr} {m : Str → Option Value}, s₁.heap.Ns b m → (hidT s₁.heap H).Ns b m := by
    rintro b m ⟨o, es, ep, e, d, r⟩
    exact ⟨o, es, ep, hidT_get e (free e d), d, r⟩
  have baseK : K.In (hidT s₁.heap H) := by
    intro b o e
    refine hidT_get (inK b o e) ?_
    apply Classical.byContradiction
    intro z
    rcases alone b z with eb | eb
    · rw [eb] at e z
      rw [mine z] at e
      cases e
    · rw [eb, noT] at e
      cases e
  have M : Mod K mg (hidT s₁.heap H) := by
    refine ⟨baseK, ns G, ⟨mb, ns B, B2⟩, ?_⟩
    obtain ⟨mc, h1, h2⟩ := lim
    exact ⟨mc, ns h1, h2⟩
  have e0 : Env0 Pg w K mg (hidT s₁.heap H) callerA [] s₁ H := by
    refine ⟨rfl, M, fun b o e => of_hidT e, Nat.le_of_eq (hidT_size _ _), trivial, ?_, ok, .of_eq gens⟩
    intro b hb
    cases hb
  have TB : LamX.TabB (hidT s₁.heap H) mg c P := by
    refine ⟨?_, ?_, ?_⟩
    · obtain ⟨o, us, file, tf, flags, tg, inF, text, tt, e1, r1, r2, r3, rest⟩ := C
      refine ⟨o, us, file, tf, flags, tg, inF, text, tt, hidT_get e1 (out e1 ?_ ?_), r1, r2, r3, rest⟩
      · intro u n z
        rw [r2] at z
        cases z
      · intro z
        rw [r2] at z
        cases z
        simp at r3
    · obtain ⟨bm, ob, b1, b2, b3, b4, b5, b6⟩ := main
      have nG : bm ≠ mainGlobals := by
        rintro rfl
        obtain ⟨o, es, ep, e, d, _⟩ := G
        rw [e] at b3
        cases b3
        rw [d] at b6
        cases b6
      have nP : bm ≠ P := by
        rintro rfl
        rw [tabl] at b3
        cases b3
        cases b6
      refine ⟨bm, ob, b1, b2, nG, nP, hidT_get b3 (out b3 ?_ ?_), b4, b5, b6⟩
      · intro u n z
        rw [b6] at z
        cases z
      · intro z
        rw [b6] at z
        cases z
    · intro z
      obtain ⟨o, es, ep, e, d, _⟩ := G
      rw [z, tabl] at e
      cases e
      cases d
  refine codeAny_mono ((F _ baseK (ns G) (sysm.elim fun m z => ⟨m, ns z⟩) TB).go callerA [] s₁ H ⟨[.ref a], []⟩ [.ref a] [.ref a] _ _ room e0 (binds s₁ (.ref a)) (.cons rfl .nil) sp0) ?_
  intro res s' done
  cases res with
  | error e => exact (show False from done).elim
  | ok fl =>
    cases fl with
    | next => exact done.elim
    | brk => exact done.elim
    | cont => exact done.elim
    | ret u =>
      obtain ⟨v, H', os, bare, un, ok', rel, q⟩ := done
      obtain rfl : v = .bl true := q
      obtain rfl : u = Value.bool true := rel
      have same : ∀ b o, b ≠ P → s₁.heap.get? b = some o → s'.heap.get? b = some o := by
        intro b o nb e
        cases z : H b with
        | none => exact un.keep b o e z (fun y => nomatch y) (fun y => nomatch y)
        | some u =>
          rcases only b with y | y | ⟨ob, xs, y⟩
          · rw [z] at y
            cases y
          · exact absurd y nb
          · obtain ⟨e1, _⟩ := ok b _ y
            obtain ⟨e2, _⟩ := ok' b _ (un.frzs b ob _ y)
            rw [e] at e1
            cases e1
            exact e2
      obtain ⟨more, grown⟩ := un.tbls P #[] tabH
      have now : s'.heap.get? P = some (PySem.W.tabObj (#[] ++ more)) := ok' P _ grown
      refine ⟨rfl, ⟨?_, ?_⟩, os, bare⟩
      · intro b o e
        by_cases hb : b = P
        · subst hb
          rw [tabl] at e
          cases e
          exact .inr (.inl ⟨(C.tab tabl).isCodeTable, rfl, #[], more, rfl, now⟩)
        · exact .inl (same b o hb e)
      · intro b o e
        by_cases hb : b = P
        · subst hb
          exact ⟨_, now⟩
        · exact ⟨o, same b o hb e⟩
theorem law_callT {k : Nat} {fa a c P : Addr} {fd : FuncData} {x : Str} {sp : Sp} {s₁ : Shared} {vs : List Value} {ns : List Int} (inK : K.In s₁.heap) (G : s₁.heap.Ns mainGlobals mg) (B : s₁.heap.Ns builtinsNs mb) (B2 : ∀ x : Str, x ≠ "__name__" → mb x = bootBuiltins x) (lim : s₁.heap.NoLimit) (gens : s₁.gens = #[])
    (tabl : s₁.heap.get? P = some (PySem.W.tabObj #[])) (noT : K.lookup P = none) (C : PySem.W.CodeHd s₁.heap c P)
    (main : ∃ (bm : Addr) (ob : Obj), mg "__builtins__" = some (.ref bm) ∧ bm ≠ builtinsNs ∧ s₁.heap.get? bm = some ob ∧ ob.cls = .type "module" ∧ ob.dict = some builtinsNs ∧ ob.data = .plain)
    (ha : s₁.heap.get? a = some { cls := .type "list", data := .seq vs.toArray }) (isInts : IntsAre vs ns) (size : ns.length ≤ sizeLine) (room : Rm k callerA)
    (F : ∀ base : Heap, K.In base → base.Ns mainGlobals mg → (∃ m, base.Ns sysModules m) → LamX.TabB base mg c P → FnG Pg w K mg base k fa fd [x] sp) (sysm : ∃ m, s₁.heap.Ns sysModules m) (binds : ∀ (s : Shared) (u : Value), BindsTo s fd ⟨[u], []⟩ [(x, u)])
    (hsp : ∀ H : Hp, H P = some (.tbl #[]) → OnlyT P H → SqL K H a (ns.map V.int) → sp [.ref a] H (fun v _ => v = .bl true) fun _ _ _ => False) :
    codeAny (model Pg w) callerA (.call (.ref fa) ⟨[.ref a], []⟩) (fun r s' => r = .ok (.ret (.bool true)) ∧ OldK s₁.heap s'.heap ∧ s'.os = s₁.os ∧ AllBare s'.gens) s₁ := by
  have rv := vals_ints isInts
  have len := isInts.length
  have nPa : a ≠ P := by
    rintro rfl
    rw [ha] at tabl
    cases tabl
  let tabs : Hp := upd (fun _ => none) P (.tbl #[])
  have atP : tabs P = some (.tbl #[]) := upd_same
  have offP : ∀ b, b ≠ P → tabs b = none := fun b hb => upd_ne hb
  have okP : HOk Pg w tabs s₁.heap := by
    intro b u z
    by_cases hb : b = P
    · subst hb
      rw [atP] at z
      cases z
      exact tabl
    · rw [offP b hb] at z
      cases z
  cases hk : K.lookup a with
  | some o =>
    have e := inK a o hk
    rw [ha] at e
    cases e
    have only : OnlyT P tabs := by
      intro b
      by_cases hb : b = P
      · exact .inr (.inl hb)
      · exact .inl (offP b hb)
    have seq : SqL K tabs a (ns.map V.int) := .inr ⟨_, vs.toArray, _, hk, rfl, rfl, rfl, by rw [List.size_toArray, len]; exact size, by simpa using rv⟩
    refine law_atT inK G B B2 lim gens tabl noT C main ⟨_, _, ha⟩ room F sysm binds (hsp _ atP only seq) atP only okP ?_ ?_
    · intro b z
      by_cases hb : b = P
      · exact .inr hb
      · exact absurd (offP b hb) z
    · exact fun z => absurd (offP a nPa) z
  | none =>
    let script : Hp := upd tabs a (.frz { cls := .type "list", data := .seq vs.toArray } (.lst (ns.map V.int)))
    have at_ : script a = some (.frz { cls := .type "list", data := .seq vs.toArray } (.lst (ns.map V.int))) := upd_same
    have atP2 : script P = some (.tbl #[]) := (upd_ne (Ne.symm nPa)).trans atP
    have off : ∀ b, b ≠ a → b ≠ P → script b = none := fun b hb hP => (upd_ne hb).trans (offP b hP)
    have only : OnlyT P script := by
      intro b
      by_cases hb : b = a
      · subst hb
        exact .inr (.inr ⟨_, _, at_⟩)
      · by_cases hP : b = P
        · exact .inr (.inl hP)
        · exact .inl (off b hb hP)
    refine law_atT (H := script) inK G B B2 lim gens tabl noT C main ⟨_, _, ha⟩ room F sysm binds (hsp _ atP2 only (.inl (.inr ⟨_, at_⟩))) atP2 only ?_ ?_ (fun _ => hk)
    · intro b u z
      by_cases hb : b = a
      · subst hb
        rw [at_] at z
        cases z
        refine ⟨ha, ?_, vs, _, rv, ha⟩
        rw [List.length_map]
        exact size
      · by_cases hP : b = P
        · subst hP
          rw [atP2] at z
          cases z
          exact tabl
        · rw [off b hb hP] at z
          cases z
    · intro b z
      by_cases hb : b = a
      · exact .inl hb
      · by_cases hP : b = P
        · exact .inr hP
        · exact absurd (off b hb hP) z
end
theorem walk_T {l : PySem.W.OpenLaw} {n k : Nat} {q : Program} {loose : List Str} {XP : (Str → Option Value) → Heap → Prop} {YP : World → Heap → Prop} {d : DefRec} {K : Params → PySem.W.Frag} {sp : PySem.W.Frag → Addr → Sp} {x : Str}
    (most : l.most = some n) (small : n ≤ sizeLine) (plain : d.params.defaults = []) (room : Rm k callerA) (bare : importsNone q = true) (hY : ∀ (w : World) (h : Heap), YP w h → (K w.params).In h)
    (F : ∀ (w : World) (mg : Str → Option Value) (fa : Addr) (h : Heap), YP w h → (K w.params).In h → h.Ns mainGlobals mg → mg d.name = some (.ref fa) →
      ∃ (fd : FuncData) (c P : Addr), (∀ (s : Shared) (u : Value), BindsTo s fd ⟨[u], []⟩ [(x, u)]) ∧ h.get? P = some (PySem.W.tabObj #[]) ∧ (K w.params).lookup P = none ∧ PySem.W.CodeHd h c P ∧
        ∀ base : Heap, (K w.params).In base → base.Ns mainGlobals mg → (∃ m, base.Ns sysModules m) → LamX.TabB base mg c P → FnG l.prog w (K w.params) mg base k fa fd [x] (sp (K w.params) P))
    (hsp : ∀ (K : PySem.W.Frag) (H : Hp) (P a : Addr) (ns : List Int), ns.length ≤ n → H P = some (.tbl #[]) → OnlyT P H → SqL K H a (ns.map V.int) → sp K P [.ref a] H (fun v _ => v = .bl true) fun _ _ _ => False) :
    PySem.W.WalkO q loose XP YP l.row.toRowW d [] (fun f vs => PySem.call f vs) := by
  refine Att.attach_callB most plain ?_
  intro w s₀ s₁ mg mb fa o pm cd doc a vs ns G Y ho hd hcd hmg hobj hints hlen hbits hg
  have inK := hY w _ Y
  obtain ⟨fd, c, P, hb, h1, h2, h3, hF⟩ := F w mg fa _ Y inK G.T.g hmg
  refine law_callT inK G.T.g G.T.b G.T.builtins G.T.nolimit hg h1 h2 h3 G.T.bmain hobj hints (Nat.le_trans hlen small) room hF ((G.T.seer bare).mods.elim fun m z => ⟨m, z.1⟩) hb ?_
  intro H t1 t2 t3
  exact hsp _ H P a ns hlen t1 t2 t3
end Mw
namespace Mw
open PySem PySem.Spec PyProof.Rows L2
section
variable {K : PySem.W.Frag} {U : Wo} {W : Wd} {M : Hp} {σ : L2.St} {n k k0 k1 k2 m i j : Nat} {ta tb : TE} {D : Ends} {H : Hp} {P CF CN : Addr} {q : Str} {ps : Array Value}
/-- a tuple's two parts are named -/
theorem s3_tup2 {R S : PyData → Prop} (a : At U n M H) (hn : n + (k1 + k2) ≤ most) (h1 : E3 K U M k1 ta σ R) (h2 : E3 K U M k2 tb σ S)
    (q : ∀ v w d e H', R d → S e → At U (n + (k1 + k2)) (U.view H') H' → Same (U.view H) (U.view H') → Dd K (U.view H') v d → Dd K (U.view H') w e → D.nx ((σ.set i (some v)).set j (some w)) H') :
    tAsg (tTup (tCons ta (tCons tb tNil))) (gTup K 2 (gCons (gName i) (gCons (gName j) gNil))) D σ H :=
  h1 n H a (by omega) _ fun v d H1 r1 ok1 s1 d1 => h2 (n + k1) H1 ⟨ok1, a.up.trans s1⟩ (by omega) _ fun w e H2 r2 ok2 s2 d2 => ⟨thousand (show 2 ≤ 100000 by decide), fun p np => by
    obtain ⟨ok3, s3, f3, _⟩ := U.new (o := .tup [v, w]) ok2 np rfl
    exact ⟨p, [v, w], rfl, .inl (.inl upd_same), rfl, v, [w], rfl, w, [], rfl, rfl, q v w d e _ r1 r2 (At.here (by rw [← Nat.add_assoc]; exact ok3)) ((s1.trans s2).trans s3) (d1.same (s2.trans s3)) (d2.same s3)⟩⟩
/-- a for whose body makes lambdas -/
theorem s3_forT {wi : TI} {Pd : List PyData → Prop} {tb : TS} (a : At (wT W P ps) n M H) (hT : LamX.TabS H P q) (hn : n + (k0 + m * k) ≤ most) (h : I3 K (wT W P ps) M k0 wi σ Pd) (z : ∀ ds, Pd ds → ds.length ≤ m) (Pv : Nat → L2.St → Prop) (h0 : Pv 0 σ)
    (hs : ∀ i n' σ' H' v d ps' (N : L2.St → Hp → Prop), i < m → n' + k ≤ most → Pv i σ' → At (wT W P ps') n' M H' → LamX.TabS H' P q → Dd K (hideV P (mk W H')) v d →
      (∀ σ2 H2 ps2, Pv (i + 1) σ2 → At (wT W P ps2) (n' + k) M H2 → LamX.TabS H2 P q → Same (hideV P (mk W H')) (hideV P (mk W H2)) → N σ2 H2) → tb { D with nx := N, ct := N, bk := D.nx } (σ'.set j (some v)) H')
    (hd : ∀ i σ' H', i ≤ m → Pv i σ' → D.nx σ' H') : tFor wi (gName j) tb D σ H :=
  h n H a (by omega) _ fun J ds H1 p ok1 s1 w => by
    have hm := z ds p
    have hmk := Nat.mul_le_mul_right k hm
    have t1 : LamX.TabS H1 P q := tab_on ((wT W P ps).mono a.ok (Nat.le_add_right _ _)) hT s1 ok1
    refine for_it w (fun i σ' H' => Pv i σ' ∧ (∃ ps', At (wT W P ps') (n + k0 + i * k) M H' ∧ LamX.TabS H' P q) ∧ Same (hideV P (mk W H1)) (hideV P (mk W H'))) ⟨h0, ⟨ps, ⟨by rw [Nat.zero_mul]; exact ok1, a.up.trans s1⟩, t1⟩, Same.refl _⟩ (fun i σ' H' _ z => z.2.2) ?_ ?_
    · rintro i x σ' H2 H3 hi ⟨pv, ⟨ps', a2, t2⟩, s2⟩ ⟨rfl, d, hd, dx⟩
      have hik : i * k + k ≤ m * k := by
        have := Nat.mul_le_mul_right k (show i + 1 ≤ m by omega)
        rwa [Nat.add_mul, Nat.one_mul] at this
      exact hs i _ σ' H3 x d ps' _ (by omega) (by omega) pv a2 t2 (dx.same s2) fun σ2 H4 ps2 p2 a4 t4 s4 => ⟨p2, ⟨ps2, ⟨by rw [Nat.add_mul, Nat.one_mul, ← Nat.add_assoc]; exact a4.ok, a4.up⟩, t4⟩, s2.trans s4⟩
    · rintro σ' H2 ⟨pv, _, _⟩
      exact hd _ _ _ hm pv
/-- a list of one's own changes -/
theorem tab_own {p : Addr} {xs : List V} {H2 : Hp} (ok : (wT W P ps).ok n H) (hT : LamX.TabS H P q) (hp : hideV P (mk W H) p = some (.lst xs)) (o : ∀ a u, a ≠ p → hideV P (mk W H) a = some u → hideV P (mk W H2) a = some u) (ok2 : (wT W P ps).ok n H2) : LamX.TabS H2 P q := by
  obtain ⟨ps', h1, h2, h3⟩ := hT
  have e1 := (mk_le W H _ _ ok.2).symm.trans h1
  cases e1
  refine ⟨ps, mk_le W H2 _ _ ok2.2, h2, fun pos cv hc => ?_⟩
  obtain ⟨c, e2, e3⟩ := h3 pos cv hc
  have cs : hideV P (mk W H) c = some (LamX.CodeO c q) := code_seen ok e3
  refine ⟨c, e2, (wT W P ps).le _ _ _ (o c _ (fun z => ?_) cs)⟩
  rw [z, hp] at cs
  have y := Option.some.inj cs
  unfold LamX.CodeO at y
  cases y
theorem word_new {r : Option Addr} {wd0 : Str} {tj : XK → TE} (a : At (wT W P ps) n M H) (hT : LamX.TabS H P q) (hn : n + k ≤ most) (kind : (r = none ∧ wd0 = "none") ∨ (r = some CF ∧ wd0 = "fields") ∨ (r = some CN ∧ wd0 = "numbers")) (job : ∀ ps', JobOk (wT W P ps') M k tj σ r)
    (go : ∀ p H2 ps', At (wT W P ps') (n + k) M H2 → LamX.TabS H2 P q → hideV P (mk W H2) p = some (.lst [.str wd0]) → M p = none → D.nx (σ.set i (some (.ref p))) H2) : tAsg (tLst (tCons (tLamJ P q (TWord K CF CN) tj) tNil)) (gName i) D σ H :=
  word_step (K := K) a hT hn kind job fun v H2 ps' a2 hT2 s2 d2 => ⟨thousand (show 1 ≤ 100000 by decide), fun p np => by
    cases d2
    obtain ⟨ok3, s3, f3, n3⟩ := (wT W P ps').new (o := .lst [.str wd0]) a2.ok np rfl
    have hM : M p = none := by
      cases z : M p with
      | none => rfl
      | some u =>
        have y := a2.up _ _ z
        rw [n3] at y
        cases y
    exact go p _ ps' ⟨ok3, a2.up.trans s3⟩ (tab_on a2.ok hT2 s3 ok3) f3 hM⟩
theorem word_push {r : Option Addr} {wd0 : Str} {tj : XK → TE} {xs : List V} {p : Addr} (a : At (wT W P ps) n M H) (hT : LamX.TabS H P q) (hn : n + k ≤ most) (kind : (r = none ∧ wd0 = "none") ∨ (r = some CF ∧ wd0 = "fields") ∨ (r = some CN ∧ wd0 = "numbers"))
    (job : ∀ ps', JobOk (wT W P ps') M k tj σ r) (hi : σ[i]? = some (some (.ref p))) (hp : hideV P (mk W H) p = some (.lst xs)) (hM : M p = none) (hl : xs.length ≤ 100000)
    (go : ∀ H2 ps', At (wT W P ps') (n + k) M H2 → LamX.TabS H2 P q → hideV P (mk W H2) p = some (.lst (xs ++ [.str wd0])) → D.nx σ H2) : tDrop (tBM K "list" rAppend (tVar i) (tCons (tLamJ P q (TWord K CF CN) tj) tNil)) D σ H :=
  ⟨_, hi, .inl ⟨rfl, xs, .inl (.inl ((wT W P ps).le _ _ _ hp))⟩, word_step (K := K) a hT hn kind job fun v H2 ps' a2 hT2 s2 d2 => by
    cases d2
    obtain ⟨ok3, f3, o3⟩ := (wT W P ps').own (o := .lst (xs ++ [.str wd0])) a2.ok (s2 _ _ hp) rfl
    exact ⟨p, xs, _, rfl, rfl, (wT W P ps').le _ _ _ (s2 _ _ hp), Nat.lt_of_le_of_lt hl (by decide), go _ ps' ⟨ok3, (wT W P ps').keep o3 hM a2.up⟩ (tab_own a2.ok hT2 (s2 _ _ hp) o3 ok3) f3⟩⟩
theorem swap_dd {H : Hp} {vs : List V} {ds : List PyData} (h : DdAll K H vs ds) : DdAll K H (swap2 vs) (swap2 ds) := by
  cases h with
  | nil => exact .nil
  | cons a h =>
    cases h with
    | nil => exact .cons a .nil
    | cons b h =>
      cases h with
      | nil => exact .cons b (.cons a .nil)
      | cons c h => exact .cons a (.cons b (.cons c h))
theorem told_ok {w1 w2 : Str} (h1 : w1 = "none" ∨ w1 = "fields") (h2 : w2 = "none" ∨ w2 = "fields" ∨ w2 = "numbers") : SeqAt.shaped (.list [.str w1, .str w2, .str w2, .str w2]) = true ∧ PyData.eqv (.list [.str w1, .str w2, .str w2, .str w2]) (.list [.str w1, .str w2, .str w2, .str w2]) = true := by
  rcases h1 with rfl | rfl <;> rcases h2 with rfl | rfl | rfl <;> exact ⟨by decide +kernel, by decide +kernel⟩
theorem short_of {t : PyData} (h : OddD t) : ∀ ts, t = .tuple ts → ts.length ≤ 100 := by
  rintro ts rfl
  exact of_decide_eq_true h.2
end
end Mw
namespace Mw
open PySem PySem.Spec PyProof.Rows L2
def spLaw (K : PySem.W.Frag) (T : Addr) : Sp := fun vs H Q _ => ∃ (a : Addr) (ns : List Int), vs = [.ref a] ∧ H T = some (.tbl #[]) ∧ OnlyT T H ∧ SqL K H a (ns.map V.int) ∧ ns.length ≤ 63 ∧ ∀ H', Q (.bl true) H'
section
variable {P : Program} {w : World} {K : PySem.W.Frag} {mg : Str → Option Value} {base : Heap} {CW CF CN : Addr}
theorem ok_law {f c Pt : Addr} {oc dV kV doc pm ct : Value} {an od : Option Addr} {osl : Array (Option Value)}
    (look : K.lookup f = some ⟨oc, od, .func (PySem.W.fnOf "law" "law" (defArgs s_law) (defBody s_law) (defScope s_law) dV kV doc pm an (.ref c) ct), osl⟩) (code : PySem.W.codeIn K (.ref c) "law" = true) (TB : LamX.TabB base mg c Pt)
    (T : Blt mg) (hs : ∃ m, base.Ns sysModules m) (G__law_begun : Def P w K mg base "_law_begun" 1 ["script"] (spBegun K)) (G_nf : Def P w K mg base "_law_near_fields" 5 ["state"] (spNF K)) (G_nn : Def P w K mg base "_law_near_numbers" 5 ["state"] (spNN K))
    (G_af : Def P w K mg base "_law_are_fields" 1 ["thing_here"] (spX K 1 PAreF)) (G_an : Def P w K mg base "_law_are_numbers" 1 ["thing_here"] (spX K 1 PAreN)) (G_odd : Def P w K mg base "_law_odd" 4 ["state"] (spOdd K))
    (D_word : JobDef P w K mg base "_law_word" 5 7 ["job"] (TWord K CF CN))
    (G_is_packet : DefR P w K mg base (L2.CX P w) anyR "is_packet" 3 ["fields", "thing"] (spY K 2 (YPk CF))) (G_spares : DefR P w K mg base (L2.CX P w) anyR "spares" 3 ["fields", "numbers"] (spY K 2 (YSp CF CN)))
    (B_spares : DefRK P w K mg base (L2.CX P w) anyR "spares" 3 ["fields", "numbers"] ["numbers", "fields"] swap2 (spY K 2 (YSp CF CN))) (B_samples : DefRK P w K mg base (L2.CX P w) anyR "samples" 4 ["fields", "numbers"] ["numbers", "fields"] swap2 (spY K 2 (YSm CF CN))) :
    FnG P w K mg base 8 f (PySem.W.fnOf "law" "law" (defArgs s_law) (defBody s_law) (defScope s_law) dV kV doc pm an (.ref c) ct) ["script"] (spLaw K Pt) := by
  refine fnGc look code sc_law (fun vs H Q E h => ?_) (fun A outer s H vs Q E hr h => ?_)
  · obtain ⟨a, ns, rfl, _⟩ := h
    rfl
  · obtain ⟨a, ns, rfl, hP, hO, hS, hl, q⟩ := h
    have hu := hu_of hr.r
    have hu64 := hu64 hr.r
    refine ⟨_, pss_cons (ps_set (i := 1) sc_law.nd rfl (.inr rfl) (pe_go G__law_begun hr (pa_cons (pv 0) pa_nil)))
        (pss_cons (ps_for PassesOwn.never rfl (pi_range1 (by rfl) T.range (pa_cons (pe_op op_add pe_int (pe_callB (call_min2 rfl) (by rfl) T.min (by decide +kernel) (pa_cons (pe_callB call_len (by rfl) T.len (by decide +kernel) (pa_cons (pv 0) pa_nil)) (pa_cons pe_int pa_nil)))) pa_nil)) (pg_name (i := 2) sc_law.nd rfl (.inl rfl))
        (pss_cons (ps_asg (pe_tup (pa_cons (pe_go G_nf hr (pa_cons (pv 1) pa_nil)) (pa_cons (pe_go G_nn hr (pa_cons (pv 1) pa_nil)) pa_nil))) (pg_tup rfl (pgs_cons (pg_name (i := 7) sc_law.nd rfl (.inr rfl)) (pgs_cons (pg_name (i := 8) sc_law.nd rfl (.inr rfl)) pgs_nil))))
          (pss_cons (ps_set (i := 3) sc_law.nd rfl (.inl rfl) (pe_ifExp (pt_val (pe_go G_af hr (pa_cons (pv 7) pa_nil))) pe_str pe_str))
          (pss_cons (ps_set (i := 4) sc_law.nd rfl (.inl rfl) (pe_ifExp (PW.pt (pw_or (pt_cmpR op_ne (pv 3) pe_str (nomark _)) (pw_or1 (pt_val (pe_go G_an hr (pa_cons (pv 8) pa_nil)))))) (pv 3) pe_str))
          (pss_cons (ps_set (i := 5) sc_law.nd rfl (.inl rfl) (pe_callB (call_repr hr hs) (by rfl) T.repr (by decide +kernel) (pa_cons (pe_lst (pa_cons (pv 7) (pa_cons (pv 8) pa_nil))) pa_nil)))
          (pss_cons (ps_set (i := 6) sc_law.nd rfl (.inl rfl) (pe_lst (pa_cons (pe_lamJ (tb := fun E => tGoE (spY K 2 (YPk CF)) E (tCons (tVar 7) (tCons (tGo (spOdd K) (tCons (tVar 1) tNil)) tNil))) D_word hr TB rfl (LamX.lamS_by (sc := defScope s_law) (by decide +kernel)) rfl (fun _ _ _ _ _ => rfl) (fun A out s1 H1 E f c' hr2 => pe_goE (E := E) G_is_packet hr2 (fun _ _ _ _ _ => trivial) (pass_on (takes_of rfl rfl rfl rfl)) (pa_cons (pv 7) (pa_cons (pe_go G_odd hr2 (pa_cons (pv 1) pa_nil)) pa_nil)))) pa_nil)))
          (pss_cons (ps_expr (pe_bm PySem.F.plainAttrs_list PySem.F.slot_list_append PySem.F.type_list_append mt_append (pv 6) (pa_cons (pe_lamJ (tb := fun E => tGoE (spY K 2 (YSp CF CN)) E (tCons (tVar 7) (tCons (tVar 8) tNil))) D_word hr TB rfl (LamX.lamS_by (sc := defScope s_law) (by decide +kernel)) rfl (fun _ _ _ _ _ => rfl) (fun A out s1 H1 E f c' hr2 => pe_goE (E := E) G_spares hr2 (fun _ _ _ _ _ => trivial) (pass_on (takes_of rfl rfl rfl rfl)) (pa_cons (pv 7) (pa_cons (pv 8) pa_nil)))) pa_nil)))
          (pss_cons (ps_expr (pe_bm PySem.F.plainAttrs_list PySem.F.slot_list_append PySem.F.type_list_append mt_append (pv 6) (pa_cons (pe_lamJ (tb := fun E => tGoEK (List.length (["numbers", "fields"] : List Str)) (spY K 2 (YSm CF CN)) E swap2 (tCons (tVar 8) (tCons (tVar 7) tNil))) D_word hr TB rfl (LamX.lamS_by (sc := defScope s_law) (by decide +kernel)) rfl (fun _ _ _ _ _ => rfl) (fun A out s1 H1 E f c' hr2 => pe_goEK (E := E) B_samples hr2 (fun _ _ _ _ _ => trivial) (pass_on (takes_of rfl rfl rfl rfl)) (pk_cons (pv 8) (pk_cons (pv 7) pk_nil)))) pa_nil)))
          (pss_cons (ps_expr (pe_bm PySem.F.plainAttrs_list PySem.F.slot_list_append PySem.F.type_list_append mt_append (pv 6) (pa_cons (pe_lamJ (tb := fun E => tGoEK (List.length (["numbers", "fields"] : List Str)) (spY K 2 (YSp CF CN)) E swap2 (tCons (tVar 8) (tCons (tVar 7) tNil))) D_word hr TB rfl (LamX.lamS_by (sc := defScope s_law) (by decide +kernel)) rfl (fun _ _ _ _ _ => rfl) (fun A out s1 H1 E f c' hr2 => pe_goEK (E := E) B_spares hr2 (fun _ _ _ _ _ => trivial) (pass_on (takes_of rfl rfl rfl rfl)) (pk_cons (pv 8) (pk_cons (pv 7) pk_nil)))) pa_nil)))
          (pss_one (ps_if (PW.pt (pw_or (pt_cmpR (op_neD hu64) (pv 6) (pe_lst (pa_cons (pv 3) (pa_cons (pv 4) (pa_cons (pv 4) (pa_cons (pv 4) pa_nil))))) (nomark _)) (pw_or1 (pt_cmpR op_ne (pe_callB (call_repr hr hs) (by rfl) T.repr (by decide +kernel) (pa_cons (pe_lst (pa_cons (pv 7) (pa_cons (pv 8) pa_nil))) pa_nil)) (pv 5) (nomark _)))))
          (pss_one (ps_ret pe_bl))
          pss_nil)))))))))))
        (pss_one (ps_ret pe_bl))), ?_⟩
    refine rd_seq ?_
    refine rd_asg ?_
    refine rd_go (rd_cons ?_)
    refine rd_var rfl ?_
    refine rd_nil ?_
    refine ⟨a, ns, rfl, hS, hl, fun W H0 e0 S0 nd nw => ?_⟩
    refine rd_name ?_
    have off : ∀ b, H b ≠ none → b ≠ W.d ∧ b ≠ W.w ∧ b ≠ W.c := fun b hb => by
      refine ⟨fun z => hb (z ▸ nd), fun z => hb (z ▸ nw), fun z => ?_⟩
      obtain ⟨r, t, ms, cs, S, _⟩ := S0
      rcases hO b with h1 | rfl | ⟨ob, xs, h1⟩
      · exact hb h1
      · have h2 := e0 _ _ hP
        rw [z, S.c] at h2
        cases h2
      · have h2 := e0 _ _ h1
        rw [z, S.c] at h2
        cases h2
    have up0 : Same H (mk W H0) := fun b x e => mk_of (e0 b x e) (off b (by rw [e]; intro z; cases z)).1 (off b (by rw [e]; intro z; cases z)).2.1 (off b (by rw [e]; intro z; cases z)).2.2
    have hS0 : SqL K (hideV Pt (mk W H0)) a (ns.map V.int) := by
      rcases hS with (h | ⟨o, h⟩) | h
      · exact .inl (.inl (hide_at (up0 _ _ h) (fun z => by
          rw [z, hP] at h
          cases h)))
      · exact .inl (.inr ⟨o, hide_at (up0 _ _ h) (fun z => by
          rw [z, hP] at h
          cases h)⟩)
      · exact .inr h
    have a0 : At (wT W Pt #[]) 0 (hideV Pt (mk W H0)) H0 := ⟨⟨S0, up0 _ _ hP⟩, Same.refl _⟩
    have big : (36 : Nat) * 100 + 200 ≤ most := by decide
    refine rd_seq ?_
    refine s3_forT (K := K) (q := (("law" : Str) ++ ".<locals>.") ++ "<lambda>") (k0 := 0) (k := 81) (m := 36) a0 (LamX.TabS.nil (e0 _ _ hP)) (by omega) (I1.i3 (P := fun ds => ds.length ≤ 36) (i1_rng (e1_op e1_int (e1_min (e1_lenOf rfl hS0) e1_int) r1_int) ?b1 ?b2) ?b3) (fun ds p => p) (fun i σ => ∃ x2 x3 x4 x5 x6 x7 x8, σ = [some (.ref a), some (.ref W.d), x2, x3, x4, x5, x6, x7, x8]) ⟨_, _, _, _, _, _, _, rfl⟩ ?_ ?_
    case b1 =>
      split <;> omega
    case b2 =>
      split <;> omega
    case b3 =>
      rw [List.length_map, List.length_range]
      split <;> omega
    · rintro it n σ' H1 v2 d2 ps1 N hi hn ⟨x2, x3, x4, x5, x6, x7, x8, rfl⟩ a1 t1 e2 hN
      have o1 : Of (wT W Pt ps1) W := (of_wd W).hide Pt (.tbl ps1)
      refine rd_seq ?_
      refine s3_tup2 (K := K) (k1 := 40) (k2 := 40) (R := NF) (S := NN) (At.here a1.ok) (by omega) (e3_god (m := 0) o1 rfl a1_nil rfl trivial) (e3_god (m := 0) o1 rfl a1_nil rfl trivial) fun v7 v8 d7 d8 H2 r7 r8 a2 s2 e7 e8 => ?_
      have t2 := tab_on ((wT W Pt ps1).mono a1.ok (Nat.le_add_right _ _)) t1 s2 a2.ok
      dsimp only
      refine rd_seq ?_
      obtain ⟨w1, hw1, ew1⟩ : ∃ w1 : Str, (w1 = "none" ∨ w1 = "fields") ∧ ((gF d7 = true ∧ w1 = "none") ∨ (gF d7 = false ∧ w1 = "fields")) := by
        cases gF d7
        · exact ⟨_, .inr rfl, .inr ⟨rfl, rfl⟩⟩
        · exact ⟨_, .inl rfl, .inl ⟨rfl, rfl⟩⟩
      refine s1_asg (K := K) (d := .str w1) a2 (e1_if (t1_val (e1_gox (a1_cons (e1_var rfl e7) a1_nil) rfl ⟨d7, rfl, r7, rfl⟩)) (fun hb => E1.is e1_str ?f1) (fun hb => E1.is e1_str ?f2)) fun v3 H3 a3 s3 e3 => ?_
      case f1 =>
        rcases ew1 with ⟨_, z⟩ | ⟨z, _⟩
        · rw [z]
        · rw [hb] at z
          cases z
      case f2 =>
        rcases ew1 with ⟨z, _⟩ | ⟨_, z⟩
        · rw [hb] at z
          cases z
        · rw [z]
      have t3 := tab_on a2.ok t2 s3 a3.ok
      dsimp only
      refine rd_seq ?_
      have e73 := e7.same s3
      have e83 := e8.same s3
      obtain ⟨w2, hw2, ew2⟩ : ∃ w2 : Str, (w2 = "none" ∨ w2 = "fields" ∨ w2 = "numbers") ∧ ((gF d7 = true ∧ gN d8 = true ∧ w2 = "none") ∨ (gF d7 = true ∧ gN d8 = false ∧ w2 = "numbers") ∨ (gF d7 = false ∧ w2 = "fields")) := by
        cases gF d7
        · exact ⟨_, .inr (.inl rfl), .inr (.inr ⟨rfl, rfl⟩)⟩
        · cases gN d8
          · exact ⟨_, .inr (.inr rfl), .inr (.inl ⟨rfl, rfl, rfl⟩)⟩
          · exact ⟨_, .inl rfl, .inl ⟨rfl, rfl, rfl⟩⟩
      refine s1_asg (K := K) (d := .str w2) a3 (e1_if (b := !gF d7 || gN d8) (t1_or (a := !gF d7) (t1_test (E1.is (e1_op (e1_var rfl e3) e1_str r1_neS) ?g0)) fun _ => t1_val (e1_gox (a1_cons (e1_var rfl e83) a1_nil) rfl ⟨d8, rfl, r8, rfl⟩)) (fun hb => E1.is (e1_var rfl e3) ?g1) (fun hb => E1.is e1_str ?g2)) fun v4 H4 a4 s4 e4 => ?_
      case g0 =>
        rcases ew1 with ⟨z, rfl⟩ | ⟨z, rfl⟩
        · rw [z] <;> rfl
        · rw [z] <;> rfl
      case g1 =>
        rcases ew1 with ⟨z, rfl⟩ | ⟨z, rfl⟩
        · rcases ew2 with ⟨_, _, rfl⟩ | ⟨_, y, _⟩ | ⟨y, _⟩
          · rfl
          · rw [z, y] at hb
            cases hb
          · rw [z] at y
            cases y
        · rcases ew2 with ⟨y, _, _⟩ | ⟨y, _, _⟩ | ⟨_, rfl⟩
          · rw [z] at y
            cases y
          · rw [z] at y
            cases y
          · rfl
      case g2 =>
        rcases ew2 with ⟨y, x, _⟩ | ⟨_, _, rfl⟩ | ⟨y, _⟩
        · rw [y, x] at hb
          cases hb
        · rfl
        · rw [y] at hb
          cases hb
      have t4 := tab_on a3.ok t3 s4 a4.ok
      dsimp only
      refine rd_seq ?_
      have fit : Fit (.list [d7, d8]) := fit_pair r7 r8
      refine s1_asg (K := K) (d := .str (PyData.shown (.list [d7, d8]))) a4 (e1_repr (e1_lst (a1_cons (e1_var rfl (e73.same s4)) (a1_cons (e1_var rfl (e83.same s4)) a1_nil)) (show 2 ≤ 100000 by decide)) fit) fun v5 H5 a5 s5 e5 => ?_
      have t5 := tab_on a4.ok t4 s5 a5.ok
      dsimp only
      refine rd_seq ?_
      have f7 := (e73.same s4).same s5
      have f8 := (e83.same s4).same s5
      have f3 := (e3.same s4).same s5
      have f4 := e4.same s5
      have oT : ∀ ps', Of (wT W Pt ps') W := fun ps' => (of_wd W).hide Pt (.tbl ps')
      -- the first word
      obtain ⟨q1, k1, y1⟩ : ∃ r : Option Addr, ((r = none ∧ w1 = "none") ∨ (r = some CF ∧ w1 = "fields") ∨ (r = some CN ∧ w1 = "numbers")) ∧ ∀ t, OddD t → ∃ o, YPk CF [d7, t] o ∧ outR o r := by
        rcases nf_kind r7 with ⟨z, names, g⟩ | ⟨z, b⟩
        · rcases ew1 with ⟨_, rfl⟩ | ⟨y, _⟩
          · exact ⟨none, .inl ⟨rfl, rfl⟩, fun t ht => ⟨_, ⟨_, _, rfl, .inl ⟨names, _, g, short_of ht, rfl, rfl⟩⟩, rfl⟩⟩
          · rw [z] at y
            cases y
        · rcases ew1 with ⟨y, _⟩ | ⟨_, rfl⟩
          · rw [z] at y
            cases y
          · exact ⟨some CF, .inr (.inl ⟨rfl, rfl⟩), fun t ht => ⟨_, ⟨_, _, rfl, .inr ⟨b, rfl⟩⟩, rfl⟩⟩
      obtain ⟨q2, k2, y2, y3⟩ : ∃ r : Option Addr, ((r = none ∧ w2 = "none") ∨ (r = some CF ∧ w2 = "fields") ∨ (r = some CN ∧ w2 = "numbers")) ∧ (∃ o, YSp CF CN [d7, d8] o ∧ outR o r) ∧ ∃ o, YSm CF CN [d7, d8] o ∧ outR o r := by
        rcases nf_kind r7 with ⟨z, names, g⟩ | ⟨z, b⟩
        · rcases nn_kind r8 with ⟨x, ds, gd⟩ | ⟨x, b⟩
          · rcases ew2 with ⟨_, _, rfl⟩ | ⟨_, y, _⟩ | ⟨y, _⟩
            · exact ⟨none, .inl ⟨rfl, rfl⟩, ⟨_, ⟨_, _, rfl, .inl ⟨names, ds, g, gd, rfl⟩⟩, rfl⟩, ⟨_, ⟨_, _, rfl, .inl ⟨names, ds, g, gd, rfl⟩⟩, rfl⟩⟩
            · rw [x] at y
              cases y
            · rw [z] at y
              cases y
          · rcases ew2 with ⟨_, y, _⟩ | ⟨_, _, rfl⟩ | ⟨y, _⟩
            · rw [x] at y
              cases y
            · exact ⟨some CN, .inr (.inr ⟨rfl, rfl⟩), ⟨_, ⟨_, _, rfl, .inr (.inr ⟨names, g, b, rfl⟩)⟩, rfl⟩, ⟨_, ⟨_, _, rfl, .inr (.inr ⟨names, g, b, rfl⟩)⟩, rfl⟩⟩
            · rw [z] at y
              cases y
        · rcases ew2 with ⟨y, _, _⟩ | ⟨y, _, _⟩ | ⟨_, rfl⟩
          · rw [z] at y
            cases y
          · rw [z] at y
            cases y
          · exact ⟨some CF, .inr (.inl ⟨rfl, rfl⟩), ⟨_, ⟨_, _, rfl, .inr (.inl ⟨b, rfl⟩)⟩, rfl⟩, ⟨_, ⟨_, _, rfl, .inr (.inl ⟨b, rfl⟩)⟩, rfl⟩⟩
      refine word_new (K := K) (k := 1) (M := hideV Pt (mk W H5)) (r := q1) (wd0 := w1) a5 t5 (by omega) k1 (fun ps' => job_Y (S := fun ds => ∃ t, ds = [d7, t] ∧ OddD t) (A3.weak (a3_consE (e1_var rfl f7) (a3_consH (e3_god (m := 0) (k := 1) (oT ps') rfl a1_nil rfl trivial) (A1.a3 a1_nil))) ?j1) ?j2) fun p6 H6 ps6 a6 t6 h6 n6 => ?_
      case j1 =>
        rintro ds ⟨_, rfl, t, _, rfl, ht, rfl⟩
        exact ⟨t, rfl, ht⟩
      case j2 =>
        rintro ds ⟨t, rfl, ht⟩
        exact ⟨rfl, y1 t ht⟩
      dsimp only
      refine rd_seq ?_
      refine word_push (K := K) (k := 0) (M := hideV Pt (mk W H5)) (r := q2) (wd0 := w2) a6 t6 (by omega) k2 (fun ps' => job_Y (S := fun ds => ds = [d7, d8]) (A1.a3 (a1_cons (e1_var rfl f7) (a1_cons (e1_var rfl f8) a1_nil))) ?j3) rfl h6 n6 (show 1 ≤ 100000 by decide) fun H7 ps7 a7 t7 h7 => ?_
      case j3 =>
        rintro ds rfl
        exact ⟨rfl, y2⟩
      refine rd_seq ?_
      refine word_push (K := K) (k := 0) (M := hideV Pt (mk W H5)) (r := q2) (wd0 := w2) a7 t7 (by omega) k2 (fun ps' => job_YK (gV := swap2) (gD := swap2) (S := fun ds => ds = [d8, d7]) (A1.a3 (a1_cons (e1_var rfl f8) (a1_cons (e1_var rfl f7) a1_nil))) (fun _ _ _ h => swap_dd h) ?j4) rfl h7 n6 (show 2 ≤ 100000 by decide) fun H8 ps8 a8 t8 h8 => ?_
      case j4 =>
        rintro ds rfl
        exact ⟨rfl, rfl, y3⟩
      refine rd_seq ?_
      refine word_push (K := K) (k := 0) (M := hideV Pt (mk W H5)) (r := q2) (wd0 := w2) a8 t8 (by omega) k2 (fun ps' => job_YK (gV := swap2) (gD := swap2) (S := fun ds => ds = [d8, d7]) (A1.a3 (a1_cons (e1_var rfl f8) (a1_cons (e1_var rfl f7) a1_nil))) (fun _ _ _ h => swap_dd h) ?j5) rfl h8 n6 (show 3 ≤ 100000 by decide) fun H9 ps9 a9 t9 h9 => ?_
      case j5 =>
        rintro ds rfl
        exact ⟨rfl, rfl, y2⟩
      have g7 := f7.same a9.up
      have g8 := f8.same a9.up
      have g3 := f3.same a9.up
      have g4 := f4.same a9.up
      have g5 := e5.same a9.up
      have sh := told_ok hw1 hw2
      have told : Dd K (hideV Pt (mk W H9)) (.ref p6) (.list [.str w1, .str w2, .str w2, .str w2]) := .lst h9 (.cons (.str _) (.cons (.str _) (.cons (.str _) (.cons (.str _) .nil))))
      refine s1_if (b := false) (At.here a9.ok) (t1_or (a := false) (b := false) (t1_test (E1.is (e1_op (e1_var rfl told) (e1_lst (a1_cons (e1_var rfl g3) (a1_cons (e1_var rfl g4) (a1_cons (e1_var rfl g4) (a1_cons (e1_var rfl g4) a1_nil)))) (show 4 ≤ 100000 by decide)) (r1_neD sh.1 sh.1)) (by rw [sh.2] <;> rfl))) fun _ => t1_test (E1.is (e1_op (e1_repr (e1_lst (a1_cons (e1_var rfl g7) (a1_cons (e1_var rfl g8) a1_nil)) (show 2 ≤ 100000 by decide)) fit) (e1_var rfl g5) r1_neS) (congrArg PyData.bool same_shown))) (fun z => Bool.noConfusion z) fun _ H10 a10 s10 => ?_
      have t10 := tab_on a9.ok t9 s10 a10.ok
      exact hN _ _ ps9 ⟨_, _, _, _, _, _, _, rfl⟩ ⟨(wT W Pt ps9).mono a10.ok (by omega), (((((a1.up.trans s2).trans s3).trans s4).trans s5).trans a9.up).trans s10⟩ t10 ((((((s2).trans s3).trans s4).trans s5).trans a9.up).trans s10)
    · rintro i σ' H1 hi ⟨x2, x3, x4, x5, x6, x7, x8, rfl⟩
      exact q _
end
end Mw
namespace Mw
open PySem PySem.Spec PyProof.Rows L2
theorem kb_swap_fields_numbers {K : PySem.W.Frag} {st : Stmt} {qual x : Str} {dV kV doc pm cdv ct : Value} {an : Option Addr} (h : ∀ w u : Value, bindArgs (PySem.W.fnOf x qual (defArgs st) (defBody st) (defScope st) .none kV doc pm an cdv ct) ⟨[], [("numbers", w), ("fields", u)]⟩ = (pure [(("fields" : Str), u), (("numbers" : Str), w)] : Sem (List (Str × Value)))) :
    KBn K (PySem.W.fnOf x qual (defArgs st) (defBody st) (defScope st) .none kV doc pm an cdv ct) ["fields", "numbers"] 0 ["numbers", "fields"] (fun _ ws => swap2 ws) (fun _ zs => swap2 zs) where
  to := fun s us ws _ l1 l2 => match us, ws, l1, l2 with
    | [], [w, u], _, _ => .of_eq (h w u)
  rel := fun _ r => by
    cases r with
    | nil => exact .nil
    | cons a r => cases r with
      | nil => exact .cons a .nil
      | cons b r => cases r with
        | nil => exact .cons b (.cons a .nil)
        | cons c r => exact .cons a (.cons b (.cons c r))

theorem all_mk {l : PySem.W.OpenLaw} {w : World} {K : PySem.W.Frag} {h : Heap} {mg : Str → Option Value} {fa CW CF CN c Pt f1 f2 f3 f4 f5 f6 f7 f8 f9 f10 f11 f12 f13 f14 f15 f16 f17 f18 f19 f20 f21 f22 f23 : Addr} (X : K.In h) (G : h.Ns mainGlobals mg) (hfa : mg "law" = some (.ref fa)) (tab : h.get? Pt = some (PySem.W.tabObj #[]))
    {od1 an1 : Option Addr} {sl1 : Array (Option Value)} {oc1 kV1 dc1 pm1 cd1 ct1 : Value} (a1 : PySem.W.nsIn K mainGlobals "is_count" = some (some (.ref f1)))
    (l1 : K.lookup f1 = some ⟨oc1, od1, .func (PySem.W.fnOf "is_count" "is_count" (defArgs s_is_count) (defBody s_is_count) (defScope s_is_count) .none kV1 dc1 pm1 an1 cd1 ct1), sl1⟩) (c1 : PySem.W.codeIn K cd1 "is_count" = true) (k1 : PySem.W.keepIn K (.ref f1) = true)
    {od2 an2 : Option Addr} {sl2 : Array (Option Value)} {oc2 kV2 dc2 pm2 cd2 ct2 : Value} (a2 : PySem.W.nsIn K mainGlobals "is_field" = some (some (.ref f2)))
    (l2 : K.lookup f2 = some ⟨oc2, od2, .func (PySem.W.fnOf "is_field" "is_field" (defArgs s_is_field) (defBody s_is_field) (defScope s_is_field) .none kV2 dc2 pm2 an2 cd2 ct2), sl2⟩) (c2 : PySem.W.codeIn K cd2 "is_field" = true) (k2 : PySem.W.keepIn K (.ref f2) = true)
    {od3 an3 : Option Addr} {sl3 : Array (Option Value)} {oc3 kV3 dc3 pm3 cd3 ct3 : Value} (a3 : PySem.W.nsIn K mainGlobals "is_list" = some (some (.ref f3)))
    (l3 : K.lookup f3 = some ⟨oc3, od3, .func (PySem.W.fnOf "is_list" "is_list" (defArgs s_is_list) (defBody s_is_list) (defScope s_is_list) .none kV3 dc3 pm3 an3 cd3 ct3), sl3⟩) (c3 : PySem.W.codeIn K cd3 "is_list" = true) (k3 : PySem.W.keepIn K (.ref f3) = true)
    {od4 an4 : Option Addr} {sl4 : Array (Option Value)} {oc4 kV4 dc4 pm4 cd4 ct4 : Value} (a4 : PySem.W.nsIn K mainGlobals "ascending_fields" = some (some (.ref f4)))
    (l4 : K.lookup f4 = some ⟨oc4, od4, .func (PySem.W.fnOf "ascending_fields" "ascending_fields" (defArgs s_ascending_fields) (defBody s_ascending_fields) (defScope s_ascending_fields) .none kV4 dc4 pm4 an4 cd4 ct4), sl4⟩) (c4 : PySem.W.codeIn K cd4 "ascending_fields" = true) (k4 : PySem.W.keepIn K (.ref f4) = true)
    {od5 an5 : Option Addr} {sl5 : Array (Option Value)} {oc5 kV5 dc5 pm5 cd5 ct5 : Value} (a5 : PySem.W.nsIn K mainGlobals "ascending_numbers" = some (some (.ref f5)))
    (l5 : K.lookup f5 = some ⟨oc5, od5, .func (PySem.W.fnOf "ascending_numbers" "ascending_numbers" (defArgs s_ascending_numbers) (defBody s_ascending_numbers) (defScope s_ascending_numbers) .none kV5 dc5 pm5 an5 cd5 ct5), sl5⟩) (c5 : PySem.W.codeIn K cd5 "ascending_numbers" = true) (k5 : PySem.W.keepIn K (.ref f5) = true)
    {od6 an6 : Option Addr} {sl6 : Array (Option Value)} {oc6 kV6 dc6 pm6 cd6 ct6 : Value} (a6 : PySem.W.nsIn K mainGlobals "is_packet" = some (some (.ref f6)))
    (l6 : K.lookup f6 = some ⟨oc6, od6, .func (PySem.W.fnOf "is_packet" "is_packet" (defArgs s_is_packet) (defBody s_is_packet) (defScope s_is_packet) .none kV6 dc6 pm6 an6 cd6 ct6), sl6⟩) (c6 : PySem.W.codeIn K cd6 "is_packet" = true) (k6 : PySem.W.keepIn K (.ref f6) = true)
    {od7 an7 : Option Addr} {sl7 : Array (Option Value)} {oc7 kV7 dc7 pm7 cd7 ct7 : Value} (a7 : PySem.W.nsIn K mainGlobals "spares" = some (some (.ref f7)))
    (l7 : K.lookup f7 = some ⟨oc7, od7, .func (PySem.W.fnOf "spares" "spares" (defArgs s_spares) (defBody s_spares) (defScope s_spares) .none kV7 dc7 pm7 an7 cd7 ct7), sl7⟩) (c7 : PySem.W.codeIn K cd7 "spares" = true) (k7 : PySem.W.keepIn K (.ref f7) = true)
    {od8 an8 : Option Addr} {sl8 : Array (Option Value)} {oc8 kV8 dc8 pm8 cd8 ct8 : Value} (a8 : PySem.W.nsIn K mainGlobals "samples" = some (some (.ref f8)))
    (l8 : K.lookup f8 = some ⟨oc8, od8, .func (PySem.W.fnOf "samples" "samples" (defArgs s_samples) (defBody s_samples) (defScope s_samples) .none kV8 dc8 pm8 an8 cd8 ct8), sl8⟩) (c8 : PySem.W.codeIn K cd8 "samples" = true) (k8 : PySem.W.keepIn K (.ref f8) = true)
    {od9 an9 : Option Addr} {sl9 : Array (Option Value)} {oc9 kV9 dc9 pm9 cd9 ct9 : Value} (a9 : PySem.W.nsIn K mainGlobals "every_packet" = some (some (.ref f9)))
    (l9 : K.lookup f9 = some ⟨oc9, od9, .func (PySem.W.fnOf "every_packet" "every_packet" (defArgs s_every_packet) (defBody s_every_packet) (defScope s_every_packet) .none kV9 dc9 pm9 an9 cd9 ct9), sl9⟩) (c9 : PySem.W.codeIn K cd9 "every_packet" = true) (k9 : PySem.W.keepIn K (.ref f9) = true)
    {od10 an10 : Option Addr} {sl10 : Array (Option Value)} {oc10 kV10 dc10 pm10 cd10 ct10 : Value} (a10 : PySem.W.nsIn K mainGlobals "_law_begun" = some (some (.ref f10)))
    (l10 : K.lookup f10 = some ⟨oc10, od10, .func (PySem.W.fnOf "_law_begun" "_law_begun" (defArgs s__law_begun) (defBody s__law_begun) (defScope s__law_begun) .none kV10 dc10 pm10 an10 cd10 ct10), sl10⟩) (c10 : PySem.W.codeIn K cd10 "_law_begun" = true) (k10 : PySem.W.keepIn K (.ref f10) = true)
    {od11 an11 : Option Addr} {sl11 : Array (Option Value)} {oc11 kV11 dc11 pm11 cd11 ct11 : Value} (a11 : PySem.W.nsIn K mainGlobals "_law_mixed" = some (some (.ref f11)))
    (l11 : K.lookup f11 = some ⟨oc11, od11, .func (PySem.W.fnOf "_law_mixed" "_law_mixed" (defArgs s__law_mixed) (defBody s__law_mixed) (defScope s__law_mixed) .none kV11 dc11 pm11 an11 cd11 ct11), sl11⟩) (c11 : PySem.W.codeIn K cd11 "_law_mixed" = true) (k11 : PySem.W.keepIn K (.ref f11) = true)
    {od12 an12 : Option Addr} {sl12 : Array (Option Value)} {oc12 kV12 dc12 pm12 cd12 ct12 : Value} (a12 : PySem.W.nsIn K mainGlobals "_law_take" = some (some (.ref f12)))
    (l12 : K.lookup f12 = some ⟨oc12, od12, .func (PySem.W.fnOf "_law_take" "_law_take" (defArgs s__law_take) (defBody s__law_take) (defScope s__law_take) .none kV12 dc12 pm12 an12 cd12 ct12), sl12⟩) (c12 : PySem.W.codeIn K cd12 "_law_take" = true) (k12 : PySem.W.keepIn K (.ref f12) = true)
    {od13 an13 : Option Addr} {sl13 : Array (Option Value)} {oc13 kV13 dc13 pm13 cd13 ct13 : Value} (a13 : PySem.W.nsIn K mainGlobals "_law_pick" = some (some (.ref f13)))
    (l13 : K.lookup f13 = some ⟨oc13, od13, .func (PySem.W.fnOf "_law_pick" "_law_pick" (defArgs s__law_pick) (defBody s__law_pick) (defScope s__law_pick) .none kV13 dc13 pm13 an13 cd13 ct13), sl13⟩) (c13 : PySem.W.codeIn K cd13 "_law_pick" = true) (k13 : PySem.W.keepIn K (.ref f13) = true)
    {od14 an14 : Option Addr} {sl14 : Array (Option Value)} {oc14 kV14 dc14 pm14 cd14 ct14 : Value} (a14 : PySem.W.nsIn K mainGlobals "_law_shuffled" = some (some (.ref f14)))
    (l14 : K.lookup f14 = some ⟨oc14, od14, .func (PySem.W.fnOf "_law_shuffled" "_law_shuffled" (defArgs s__law_shuffled) (defBody s__law_shuffled) (defScope s__law_shuffled) .none kV14 dc14 pm14 an14 cd14 ct14), sl14⟩) (c14 : PySem.W.codeIn K cd14 "_law_shuffled" = true) (k14 : PySem.W.keepIn K (.ref f14) = true)
    {od15 an15 : Option Addr} {sl15 : Array (Option Value)} {oc15 kV15 dc15 pm15 cd15 ct15 : Value} (a15 : PySem.W.nsIn K mainGlobals "_law_caught" = some (some (.ref f15)))
    (l15 : K.lookup f15 = some ⟨oc15, od15, .func (PySem.W.fnOf "_law_caught" "_law_caught" (defArgs s__law_caught) (defBody s__law_caught) (defScope s__law_caught) .none kV15 dc15 pm15 an15 cd15 ct15), sl15⟩) (c15 : PySem.W.codeIn K cd15 "_law_caught" = true) (k15 : PySem.W.keepIn K (.ref f15) = true)
    {od16 an16 : Option Addr} {sl16 : Array (Option Value)} {oc16 kV16 dc16 pm16 cd16 ct16 : Value} (a16 : PySem.W.nsIn K mainGlobals "_law_odd" = some (some (.ref f16)))
    (l16 : K.lookup f16 = some ⟨oc16, od16, .func (PySem.W.fnOf "_law_odd" "_law_odd" (defArgs s__law_odd) (defBody s__law_odd) (defScope s__law_odd) .none kV16 dc16 pm16 an16 cd16 ct16), sl16⟩) (c16 : PySem.W.codeIn K cd16 "_law_odd" = true) (k16 : PySem.W.keepIn K (.ref f16) = true)
    {od17 an17 : Option Addr} {sl17 : Array (Option Value)} {oc17 kV17 dc17 pm17 cd17 ct17 : Value} (a17 : PySem.W.nsIn K mainGlobals "_law_frame" = some (some (.ref f17)))
    (l17 : K.lookup f17 = some ⟨oc17, od17, .func (PySem.W.fnOf "_law_frame" "_law_frame" (defArgs s__law_frame) (defBody s__law_frame) (defScope s__law_frame) .none kV17 dc17 pm17 an17 cd17 ct17), sl17⟩) (c17 : PySem.W.codeIn K cd17 "_law_frame" = true) (k17 : PySem.W.keepIn K (.ref f17) = true)
    {od18 an18 : Option Addr} {sl18 : Array (Option Value)} {oc18 kV18 dc18 pm18 cd18 ct18 : Value} (a18 : PySem.W.nsIn K mainGlobals "_law_word" = some (some (.ref f18)))
    (l18 : K.lookup f18 = some ⟨oc18, od18, .func (PySem.W.fnOf "_law_word" "_law_word" (defArgs s__law_word) (defBody s__law_word) (defScope s__law_word) .none kV18 dc18 pm18 an18 cd18 ct18), sl18⟩) (c18 : PySem.W.codeIn K cd18 "_law_word" = true) (k18 : PySem.W.keepIn K (.ref f18) = true)
    {od19 an19 : Option Addr} {sl19 : Array (Option Value)} {oc19 kV19 dc19 pm19 cd19 ct19 : Value} (a19 : PySem.W.nsIn K mainGlobals "_law_near_fields" = some (some (.ref f19)))
    (l19 : K.lookup f19 = some ⟨oc19, od19, .func (PySem.W.fnOf "_law_near_fields" "_law_near_fields" (defArgs s__law_near_fields) (defBody s__law_near_fields) (defScope s__law_near_fields) .none kV19 dc19 pm19 an19 cd19 ct19), sl19⟩) (c19 : PySem.W.codeIn K cd19 "_law_near_fields" = true) (k19 : PySem.W.keepIn K (.ref f19) = true)
    {od20 an20 : Option Addr} {sl20 : Array (Option Value)} {oc20 kV20 dc20 pm20 cd20 ct20 : Value} (a20 : PySem.W.nsIn K mainGlobals "_law_are_fields" = some (some (.ref f20)))
    (l20 : K.lookup f20 = some ⟨oc20, od20, .func (PySem.W.fnOf "_law_are_fields" "_law_are_fields" (defArgs s__law_are_fields) (defBody s__law_are_fields) (defScope s__law_are_fields) .none kV20 dc20 pm20 an20 cd20 ct20), sl20⟩) (c20 : PySem.W.codeIn K cd20 "_law_are_fields" = true) (k20 : PySem.W.keepIn K (.ref f20) = true)
    {od21 an21 : Option Addr} {sl21 : Array (Option Value)} {oc21 kV21 dc21 pm21 cd21 ct21 : Value} (a21 : PySem.W.nsIn K mainGlobals "_law_near_numbers" = some (some (.ref f21)))
    (l21 : K.lookup f21 = some ⟨oc21, od21, .func (PySem.W.fnOf "_law_near_numbers" "_law_near_numbers" (defArgs s__law_near_numbers) (defBody s__law_near_numbers) (defScope s__law_near_numbers) .none kV21 dc21 pm21 an21 cd21 ct21), sl21⟩) (c21 : PySem.W.codeIn K cd21 "_law_near_numbers" = true) (k21 : PySem.W.keepIn K (.ref f21) = true)
    {od22 an22 : Option Addr} {sl22 : Array (Option Value)} {oc22 kV22 dc22 pm22 cd22 ct22 : Value} (a22 : PySem.W.nsIn K mainGlobals "_law_are_numbers" = some (some (.ref f22)))
    (l22 : K.lookup f22 = some ⟨oc22, od22, .func (PySem.W.fnOf "_law_are_numbers" "_law_are_numbers" (defArgs s__law_are_numbers) (defBody s__law_are_numbers) (defScope s__law_are_numbers) .none kV22 dc22 pm22 an22 cd22 ct22), sl22⟩) (c22 : PySem.W.codeIn K cd22 "_law_are_numbers" = true) (k22 : PySem.W.keepIn K (.ref f22) = true)
    {od23 an23 : Option Addr} {sl23 : Array (Option Value)} {oc23 kV23 dc23 pm23 ct23 : Value} (a23 : PySem.W.nsIn K mainGlobals "law" = some (some (.ref f23)))
    (l23 : K.lookup f23 = some ⟨oc23, od23, .func (PySem.W.fnOf "law" "law" (defArgs s_law) (defBody s_law) (defScope s_law) .none kV23 dc23 pm23 an23 (.ref c) ct23), sl23⟩) (c23 : PySem.W.codeIn K (.ref c) "law" = true) (k23 : PySem.W.keepIn K (.ref f23) = true)
    (z1 : PySem.W.nsIn K mainGlobals "abs" = some none)
    (z2 : PySem.W.nsIn K mainGlobals "int" = some none)
    (z3 : PySem.W.nsIn K mainGlobals "len" = some none)
    (z4 : PySem.W.nsIn K mainGlobals "list" = some none)
    (z5 : PySem.W.nsIn K mainGlobals "tuple" = some none)
    (z6 : PySem.W.nsIn K mainGlobals "range" = some none)
    (z7 : PySem.W.nsIn K mainGlobals "sorted" = some none)
    (z8 : PySem.W.nsIn K mainGlobals "isinstance" = some none)
    (z9 : PySem.W.nsIn K mainGlobals "str" = some none)
    (z10 : PySem.W.nsIn K mainGlobals "bool" = some none)
    (z11 : PySem.W.nsIn K mainGlobals "all" = some none)
    (z12 : PySem.W.nsIn K mainGlobals "set" = some none)
    (z13 : PySem.W.nsIn K mainGlobals "repr" = some none)
    (z14 : PySem.W.nsIn K mainGlobals "min" = some none)
    (z15 : PySem.W.nsIn K mainGlobals "zip" = some none)
    {ti_MOST_LETTERS : Tok} (yi_MOST_LETTERS : PySem.W.nsIn K mainGlobals "MOST_LETTERS" = some (some (.int 6 ti_MOST_LETTERS)))
    {ti_MOST_FIELDS : Tok} (yi_MOST_FIELDS : PySem.W.nsIn K mainGlobals "MOST_FIELDS" = some (some (.int 3 ti_MOST_FIELDS)))
    {ti_MOST_NUMBERS : Tok} (yi_MOST_NUMBERS : PySem.W.nsIn K mainGlobals "MOST_NUMBERS" = some (some (.int 8 ti_MOST_NUMBERS)))
    {tt_LETTERS : Tok} (yt_LETTERS : PySem.W.nsIn K mainGlobals "LETTERS" = some (some (.str lettersS tt_LETTERS)))
    {ub_BARRED : Addr} {uo_BARRED : Obj} {us_BARRED : Array Value} {un_BARRED : Nat} (u4_BARRED : PySem.W.nsIn K mainGlobals "BARRED" = some (some (.ref ub_BARRED))) (u5_BARRED : K.lookup ub_BARRED = some uo_BARRED) (u6_BARRED : uo_BARRED.cls = .type "tuple") (u7_BARRED : uo_BARRED.data = .seq us_BARRED un_BARRED) (u8_BARRED : us_BARRED.size ≤ sizeLine) (u9_BARRED : Vals (barredD.map valD) us_BARRED.toList)
    (eW : PySem.W.nsIn K mainGlobals "WayError" = some (some (.ref CW)))
    (gF : PySem.W.nsIn K mainGlobals "BadFields" = some (some (.ref CF)))
    (xF : PySem.W.excIn K CF bmV "ValueError.__new__" = true)
    (pF : PySem.W.keepIn K (.ref CF) = true)
    (bF : PySem.W.subIn K (.ref CF) (.type "BaseException") = some true)
    (tF : PySem.W.typeIn K (.ref CF) = some (.type "type"))
    (hgF : PySem.W.findIn K (.ref CF) "__getattribute__" = some (some (.builtin "BaseException.__getattribute__")))
    (hkF : PySem.W.findIn K (.ref CF) "__getattr__" = some none)
    (hdF : PySem.W.hasDictIn K CF = true)
    (haF : PySem.W.findIn K (.ref CF) "__class__" = some (some (.builtin "object.__class__")))
    (hmF : PySem.W.mroIn K CF (.type "object") = some true)
    (wF : PySem.W.exmOne K (.ref CF) (.ref CW) = some true)
    (gN : PySem.W.nsIn K mainGlobals "BadNumbers" = some (some (.ref CN)))
    (xN : PySem.W.excIn K CN bmV "ValueError.__new__" = true)
    (pN : PySem.W.keepIn K (.ref CN) = true)
    (bN : PySem.W.subIn K (.ref CN) (.type "BaseException") = some true)
    (tN : PySem.W.typeIn K (.ref CN) = some (.type "type"))
    (hgN : PySem.W.findIn K (.ref CN) "__getattribute__" = some (some (.builtin "BaseException.__getattribute__")))
    (hkN : PySem.W.findIn K (.ref CN) "__getattr__" = some none)
    (hdN : PySem.W.hasDictIn K CN = true)
    (haN : PySem.W.findIn K (.ref CN) "__class__" = some (some (.builtin "object.__class__")))
    (hmN : PySem.W.mroIn K CN (.type "object") = some true)
    (wN : PySem.W.exmOne K (.ref CN) (.ref CW) = some true)
    (hn : PySem.W.specialIn K (.builtin "object.__class__") "__get__" = some (some (.builtin "getset_descriptor.__get__")))
    (ht : PySem.W.takesIn K (.builtin "object.__class__") = some true)
    (iFF : PySem.W.kitOne K (.ref CF) (.ref CF) = some true)
    (iFN : PySem.W.kitOne K (.ref CF) (.ref CN) = some false)
    (iNF : PySem.W.kitOne K (.ref CN) (.ref CF) = some false)
    (iNN : PySem.W.kitOne K (.ref CN) (.ref CN) = some true)
    (hh : PySem.W.codeHdIn K c Pt = true)
    (np : K.lookup Pt = none) :
    ∃ (fd : FuncData) (c P : Addr), (∀ (s : Shared) (u : Value), BindsTo s fd ⟨[u], []⟩ [("script", u)]) ∧ h.get? P = some (PySem.W.tabObj #[]) ∧ K.lookup P = none ∧ PySem.W.CodeHd h c P ∧
      ∀ base : Heap, K.In base → base.Ns mainGlobals mg → (∃ m, base.Ns sysModules m) → LamX.TabB base mg c P → FnG l.prog w K mg base 8 fa fd ["script"] (spLaw K P) := by
  have e := hfa.symm.trans (PySem.W.mg_of X G a23)
  cases e
  have F_is_count := fun_mk (st := s_is_count) l1 c1 k1
  have F_is_field := fun_mk (st := s_is_field) l2 c2 k2
  have F_is_list := fun_mk (st := s_is_list) l3 c3 k3
  have F_ascending_fields := fun_mk (st := s_ascending_fields) l4 c4 k4
  have F_ascending_numbers := fun_mk (st := s_ascending_numbers) l5 c5 k5
  have F_is_packet := fun_mk (st := s_is_packet) l6 c6 k6
  have F_spares := fun_mk (st := s_spares) l7 c7 k7
  have F_samples := fun_mk (st := s_samples) l8 c8 k8
  have F_every_packet := fun_mk (st := s_every_packet) l9 c9 k9
  have F__law_begun := fun_mk (st := s__law_begun) l10 c10 k10
  have F__law_mixed := fun_mk (st := s__law_mixed) l11 c11 k11
  have F__law_take := fun_mk (st := s__law_take) l12 c12 k12
  have F__law_pick := fun_mk (st := s__law_pick) l13 c13 k13
  have F__law_shuffled := fun_mk (st := s__law_shuffled) l14 c14 k14
  have F__law_caught := fun_mk (st := s__law_caught) l15 c15 k15
  have F__law_odd := fun_mk (st := s__law_odd) l16 c16 k16
  have F__law_frame := fun_mk (st := s__law_frame) l17 c17 k17
  have F__law_word := fun_mk (st := s__law_word) l18 c18 k18
  have F__law_near_fields := fun_mk (st := s__law_near_fields) l19 c19 k19
  have F__law_are_fields := fun_mk (st := s__law_are_fields) l20 c20 k20
  have F__law_near_numbers := fun_mk (st := s__law_near_numbers) l21 c21 k21
  have F__law_are_numbers := fun_mk (st := s__law_are_numbers) l22 c22 k22
  have T : Blt mg := { abs := PySem.W.mg_none_of X G z1, int := PySem.W.mg_none_of X G z2, len := PySem.W.mg_none_of X G z3, list := PySem.W.mg_none_of X G z4, tuple := PySem.W.mg_none_of X G z5, range := PySem.W.mg_none_of X G z6, sorted := PySem.W.mg_none_of X G z7, isinstance := PySem.W.mg_none_of X G z8, str := PySem.W.mg_none_of X G z9, bool := PySem.W.mg_none_of X G z10, all := PySem.W.mg_none_of X G z11, set := PySem.W.mg_none_of X G z12, repr := PySem.W.mg_none_of X G z13, min := PySem.W.mg_none_of X G z14, zip := PySem.W.mg_none_of X G z15 }
  have i_MOST_LETTERS : ∃ t, mg "MOST_LETTERS" = some (.int 6 t) := ⟨_, PySem.W.mg_of X G yi_MOST_LETTERS⟩
  have i_MOST_FIELDS : ∃ t, mg "MOST_FIELDS" = some (.int 3 t) := ⟨_, PySem.W.mg_of X G yi_MOST_FIELDS⟩
  have i_MOST_NUMBERS : ∃ t, mg "MOST_NUMBERS" = some (.int 8 t) := ⟨_, PySem.W.mg_of X G yi_MOST_NUMBERS⟩
  have t_LETTERS : ∃ t, mg "LETTERS" = some (.str lettersS t) := ⟨_, PySem.W.mg_of X G yt_LETTERS⟩
  have u_BARRED : ∃ (b : Addr) (o : Obj) (its : Array Value) (n : Nat), mg "BARRED" = some (.ref b) ∧ K.lookup b = some o ∧ o.cls = .type "tuple" ∧ o.data = .seq its n ∧ its.size ≤ sizeLine ∧ Vals (barredD.map valD) its.toList := ⟨ub_BARRED, uo_BARRED, us_BARRED, un_BARRED, PySem.W.mg_of X G u4_BARRED, u5_BARRED, u6_BARRED, u7_BARRED, u8_BARRED, u9_BARRED⟩
  have C : Cst K mg := { letters := t_LETTERS, most_letters := i_MOST_LETTERS, most_fields := i_MOST_FIELDS, most_numbers := i_MOST_NUMBERS, barred := u_BARRED }
  have Er : Err K mg CW CF CN := { w := PySem.W.mg_of X G eW, f := ⟨xF, PySem.W.mg_of X G gF, pF, bF, tF⟩, fx := ⟨hgF, hkF, bF, hdF, haF, hn, ht, hmF⟩, fw := wF, n := ⟨xN, PySem.W.mg_of X G gN, pN, bN, tN⟩, nx := ⟨hgN, hkN, bN, hdN, haN, hn, ht, hmN⟩, nw := wN, ff := iFF, fn := iFN, nf := iNF, nn := iNN }
  refine ⟨PySem.W.fnOf "law" "law" (defArgs s_law) (defBody s_law) (defScope s_law) .none kV23 dc23 pm23 an23 (.ref c) ct23, c, Pt, fun s u => .of_eq rfl, tab, np, PySem.W.codeHd_of_K X hh, fun base _ _ hs TB => ?_⟩
  have M_is_count : ∀ {k : Nat} {sp : Sp} {fd : FuncData}, fd = PySem.W.fnOf "is_count" "is_count" (defArgs s_is_count) (defBody s_is_count) (defScope s_is_count) .none kV1 dc1 pm1 an1 cd1 ct1 → FnG l.prog w K mg base k f1 fd ["thing"] sp → Def l.prog w K mg base "is_count" k ["thing"] sp := fun e ok => ⟨_, _, PySem.W.mg_of X G a1, k1, e ▸ F_is_count.binds (ps := ["thing"]) fun _ _ _ _ _ _ us hl => match us, hl with | [_], _ => rfl, ok⟩
  have M_is_field : ∀ {k : Nat} {sp : Sp} {fd : FuncData}, fd = PySem.W.fnOf "is_field" "is_field" (defArgs s_is_field) (defBody s_is_field) (defScope s_is_field) .none kV2 dc2 pm2 an2 cd2 ct2 → FnG l.prog w K mg base k f2 fd ["thing"] sp → Def l.prog w K mg base "is_field" k ["thing"] sp := fun e ok => ⟨_, _, PySem.W.mg_of X G a2, k2, e ▸ F_is_field.binds (ps := ["thing"]) fun _ _ _ _ _ _ us hl => match us, hl with | [_], _ => rfl, ok⟩
  have M_is_list : ∀ {k : Nat} {sp : Sp} {fd : FuncData}, fd = PySem.W.fnOf "is_list" "is_list" (defArgs s_is_list) (defBody s_is_list) (defScope s_is_list) .none kV3 dc3 pm3 an3 cd3 ct3 → FnG l.prog w K mg base k f3 fd ["thing"] sp → Def l.prog w K mg base "is_list" k ["thing"] sp := fun e ok => ⟨_, _, PySem.W.mg_of X G a3, k3, e ▸ F_is_list.binds (ps := ["thing"]) fun _ _ _ _ _ _ us hl => match us, hl with | [_], _ => rfl, ok⟩
  have M_ascending_fields : ∀ {k : Nat} {sp : Sp} {fd : FuncData}, fd = PySem.W.fnOf "ascending_fields" "ascending_fields" (defArgs s_ascending_fields) (defBody s_ascending_fields) (defScope s_ascending_fields) .none kV4 dc4 pm4 an4 cd4 ct4 → FnR l.prog w K mg base (L2.CX l.prog w) anyR k f4 fd ["fields"] sp → DefR l.prog w K mg base (L2.CX l.prog w) anyR "ascending_fields" k ["fields"] sp := fun e ok => ⟨_, _, PySem.W.mg_of X G a4, k4, e ▸ F_ascending_fields.binds (ps := ["fields"]) fun _ _ _ _ _ _ us hl => match us, hl with | [_], _ => rfl, ok⟩
  have M_ascending_numbers : ∀ {k : Nat} {sp : Sp} {fd : FuncData}, fd = PySem.W.fnOf "ascending_numbers" "ascending_numbers" (defArgs s_ascending_numbers) (defBody s_ascending_numbers) (defScope s_ascending_numbers) .none kV5 dc5 pm5 an5 cd5 ct5 → FnR l.prog w K mg base (L2.CX l.prog w) anyR k f5 fd ["numbers"] sp → DefR l.prog w K mg base (L2.CX l.prog w) anyR "ascending_numbers" k ["numbers"] sp := fun e ok => ⟨_, _, PySem.W.mg_of X G a5, k5, e ▸ F_ascending_numbers.binds (ps := ["numbers"]) fun _ _ _ _ _ _ us hl => match us, hl with | [_], _ => rfl, ok⟩
  have M_is_packet : ∀ {k : Nat} {sp : Sp} {fd : FuncData}, fd = PySem.W.fnOf "is_packet" "is_packet" (defArgs s_is_packet) (defBody s_is_packet) (defScope s_is_packet) .none kV6 dc6 pm6 an6 cd6 ct6 → FnR l.prog w K mg base (L2.CX l.prog w) anyR k f6 fd ["fields", "thing"] sp → DefR l.prog w K mg base (L2.CX l.prog w) anyR "is_packet" k ["fields", "thing"] sp := fun e ok => ⟨_, _, PySem.W.mg_of X G a6, k6, e ▸ F_is_packet.binds (ps := ["fields", "thing"]) fun _ _ _ _ _ _ us hl => match us, hl with | [_, _], _ => rfl, ok⟩
  have M_spares : ∀ {k : Nat} {sp : Sp} {fd : FuncData}, fd = PySem.W.fnOf "spares" "spares" (defArgs s_spares) (defBody s_spares) (defScope s_spares) .none kV7 dc7 pm7 an7 cd7 ct7 → FnR l.prog w K mg base (L2.CX l.prog w) anyR k f7 fd ["fields", "numbers"] sp → DefR l.prog w K mg base (L2.CX l.prog w) anyR "spares" k ["fields", "numbers"] sp := fun e ok => ⟨_, _, PySem.W.mg_of X G a7, k7, e ▸ F_spares.binds (ps := ["fields", "numbers"]) fun _ _ _ _ _ _ us hl => match us, hl with | [_, _], _ => rfl, ok⟩
  have M_samples : ∀ {k : Nat} {sp : Sp} {fd : FuncData}, fd = PySem.W.fnOf "samples" "samples" (defArgs s_samples) (defBody s_samples) (defScope s_samples) .none kV8 dc8 pm8 an8 cd8 ct8 → FnR l.prog w K mg base (L2.CX l.prog w) anyR k f8 fd ["fields", "numbers"] sp → DefR l.prog w K mg base (L2.CX l.prog w) anyR "samples" k ["fields", "numbers"] sp := fun e ok => ⟨_, _, PySem.W.mg_of X G a8, k8, e ▸ F_samples.binds (ps := ["fields", "numbers"]) fun _ _ _ _ _ _ us hl => match us, hl with | [_, _], _ => rfl, ok⟩
  have M_every_packet : ∀ {k : Nat} {sp : Sp} {fd : FuncData}, fd = PySem.W.fnOf "every_packet" "every_packet" (defArgs s_every_packet) (defBody s_every_packet) (defScope s_every_packet) .none kV9 dc9 pm9 an9 cd9 ct9 → FnG l.prog w K mg base k f9 fd ["choices"] sp → Def l.prog w K mg base "every_packet" k ["choices"] sp := fun e ok => ⟨_, _, PySem.W.mg_of X G a9, k9, e ▸ F_every_packet.binds (ps := ["choices"]) fun _ _ _ _ _ _ us hl => match us, hl with | [_], _ => rfl, ok⟩
  have M__law_begun : ∀ {k : Nat} {sp : Sp} {fd : FuncData}, fd = PySem.W.fnOf "_law_begun" "_law_begun" (defArgs s__law_begun) (defBody s__law_begun) (defScope s__law_begun) .none kV10 dc10 pm10 an10 cd10 ct10 → FnG l.prog w K mg base k f10 fd ["script"] sp → Def l.prog w K mg base "_law_begun" k ["script"] sp := fun e ok => ⟨_, _, PySem.W.mg_of X G a10, k10, e ▸ F__law_begun.binds (ps := ["script"]) fun _ _ _ _ _ _ us hl => match us, hl with | [_], _ => rfl, ok⟩
  have M__law_mixed : ∀ {k : Nat} {sp : Sp} {fd : FuncData}, fd = PySem.W.fnOf "_law_mixed" "_law_mixed" (defArgs s__law_mixed) (defBody s__law_mixed) (defScope s__law_mixed) .none kV11 dc11 pm11 an11 cd11 ct11 → FnG l.prog w K mg base k f11 fd ["state"] sp → Def l.prog w K mg base "_law_mixed" k ["state"] sp := fun e ok => ⟨_, _, PySem.W.mg_of X G a11, k11, e ▸ F__law_mixed.binds (ps := ["state"]) fun _ _ _ _ _ _ us hl => match us, hl with | [_], _ => rfl, ok⟩
  have M__law_take : ∀ {k : Nat} {sp : Sp} {fd : FuncData}, fd = PySem.W.fnOf "_law_take" "_law_take" (defArgs s__law_take) (defBody s__law_take) (defScope s__law_take) .none kV12 dc12 pm12 an12 cd12 ct12 → FnG l.prog w K mg base k f12 fd ["state", "size"] sp → Def l.prog w K mg base "_law_take" k ["state", "size"] sp := fun e ok => ⟨_, _, PySem.W.mg_of X G a12, k12, e ▸ F__law_take.binds (ps := ["state", "size"]) fun _ _ _ _ _ _ us hl => match us, hl with | [_, _], _ => rfl, ok⟩
  have M__law_pick : ∀ {k : Nat} {sp : Sp} {fd : FuncData}, fd = PySem.W.fnOf "_law_pick" "_law_pick" (defArgs s__law_pick) (defBody s__law_pick) (defScope s__law_pick) .none kV13 dc13 pm13 an13 cd13 ct13 → FnG l.prog w K mg base k f13 fd ["state", "some"] sp → Def l.prog w K mg base "_law_pick" k ["state", "some"] sp := fun e ok => ⟨_, _, PySem.W.mg_of X G a13, k13, e ▸ F__law_pick.binds (ps := ["state", "some"]) fun _ _ _ _ _ _ us hl => match us, hl with | [_, _], _ => rfl, ok⟩
  have M__law_shuffled : ∀ {k : Nat} {sp : Sp} {fd : FuncData}, fd = PySem.W.fnOf "_law_shuffled" "_law_shuffled" (defArgs s__law_shuffled) (defBody s__law_shuffled) (defScope s__law_shuffled) .none kV14 dc14 pm14 an14 cd14 ct14 → FnG l.prog w K mg base k f14 fd ["state", "some"] sp → Def l.prog w K mg base "_law_shuffled" k ["state", "some"] sp := fun e ok => ⟨_, _, PySem.W.mg_of X G a14, k14, e ▸ F__law_shuffled.binds (ps := ["state", "some"]) fun _ _ _ _ _ _ us hl => match us, hl with | [_, _], _ => rfl, ok⟩
  have M__law_odd : ∀ {k : Nat} {sp : Sp} {fd : FuncData}, fd = PySem.W.fnOf "_law_odd" "_law_odd" (defArgs s__law_odd) (defBody s__law_odd) (defScope s__law_odd) .none kV16 dc16 pm16 an16 cd16 ct16 → FnG l.prog w K mg base k f16 fd ["state"] sp → Def l.prog w K mg base "_law_odd" k ["state"] sp := fun e ok => ⟨_, _, PySem.W.mg_of X G a16, k16, e ▸ F__law_odd.binds (ps := ["state"]) fun _ _ _ _ _ _ us hl => match us, hl with | [_], _ => rfl, ok⟩
  have M__law_frame : ∀ {k : Nat} {sp : Sp} {fd : FuncData}, fd = PySem.W.fnOf "_law_frame" "_law_frame" (defArgs s__law_frame) (defBody s__law_frame) (defScope s__law_frame) .none kV17 dc17 pm17 an17 cd17 ct17 → FnG l.prog w K mg base k f17 fd ["state", "upto"] sp → Def l.prog w K mg base "_law_frame" k ["state", "upto"] sp := fun e ok => ⟨_, _, PySem.W.mg_of X G a17, k17, e ▸ F__law_frame.binds (ps := ["state", "upto"]) fun _ _ _ _ _ _ us hl => match us, hl with | [_, _], _ => rfl, ok⟩
  have M__law_near_fields : ∀ {k : Nat} {sp : Sp} {fd : FuncData}, fd = PySem.W.fnOf "_law_near_fields" "_law_near_fields" (defArgs s__law_near_fields) (defBody s__law_near_fields) (defScope s__law_near_fields) .none kV19 dc19 pm19 an19 cd19 ct19 → FnG l.prog w K mg base k f19 fd ["state"] sp → Def l.prog w K mg base "_law_near_fields" k ["state"] sp := fun e ok => ⟨_, _, PySem.W.mg_of X G a19, k19, e ▸ F__law_near_fields.binds (ps := ["state"]) fun _ _ _ _ _ _ us hl => match us, hl with | [_], _ => rfl, ok⟩
  have M__law_are_fields : ∀ {k : Nat} {sp : Sp} {fd : FuncData}, fd = PySem.W.fnOf "_law_are_fields" "_law_are_fields" (defArgs s__law_are_fields) (defBody s__law_are_fields) (defScope s__law_are_fields) .none kV20 dc20 pm20 an20 cd20 ct20 → FnG l.prog w K mg base k f20 fd ["thing_here"] sp → Def l.prog w K mg base "_law_are_fields" k ["thing_here"] sp := fun e ok => ⟨_, _, PySem.W.mg_of X G a20, k20, e ▸ F__law_are_fields.binds (ps := ["thing_here"]) fun _ _ _ _ _ _ us hl => match us, hl with | [_], _ => rfl, ok⟩
  have M__law_near_numbers : ∀ {k : Nat} {sp : Sp} {fd : FuncData}, fd = PySem.W.fnOf "_law_near_numbers" "_law_near_numbers" (defArgs s__law_near_numbers) (defBody s__law_near_numbers) (defScope s__law_near_numbers) .none kV21 dc21 pm21 an21 cd21 ct21 → FnG l.prog w K mg base k f21 fd ["state"] sp → Def l.prog w K mg base "_law_near_numbers" k ["state"] sp := fun e ok => ⟨_, _, PySem.W.mg_of X G a21, k21, e ▸ F__law_near_numbers.binds (ps := ["state"]) fun _ _ _ _ _ _ us hl => match us, hl with | [_], _ => rfl, ok⟩
  have M__law_are_numbers : ∀ {k : Nat} {sp : Sp} {fd : FuncData}, fd = PySem.W.fnOf "_law_are_numbers" "_law_are_numbers" (defArgs s__law_are_numbers) (defBody s__law_are_numbers) (defScope s__law_are_numbers) .none kV22 dc22 pm22 an22 cd22 ct22 → FnG l.prog w K mg base k f22 fd ["thing_here"] sp → Def l.prog w K mg base "_law_are_numbers" k ["thing_here"] sp := fun e ok => ⟨_, _, PySem.W.mg_of X G a22, k22, e ▸ F__law_are_numbers.binds (ps := ["thing_here"]) fun _ _ _ _ _ _ us hl => match us, hl with | [_], _ => rfl, ok⟩
  have G_is_count : Def l.prog w K mg base "is_count" 1 ["thing"] (spCount K) := M_is_count rfl (ok_is_count F_is_count T)
  have G_is_field : Def l.prog w K mg base "is_field" 1 ["thing"] (spField K) := M_is_field rfl (ok_is_field F_is_field T C)
  have G_is_list : Def l.prog w K mg base "is_list" 1 ["thing"] (spList K) := M_is_list rfl (ok_is_list F_is_list T)
  have G_ascending_fields : DefR l.prog w K mg base (L2.CX l.prog w) anyR "ascending_fields" 2 ["fields"] (spY K 1 (YAsc CF)) := M_ascending_fields rfl (asc_fields F_ascending_fields T Er C G_is_list G_is_field)
  have G_ascending_numbers : DefR l.prog w K mg base (L2.CX l.prog w) anyR "ascending_numbers" 2 ["numbers"] (spY K 1 (YAscN CN)) := M_ascending_numbers rfl (asc_numbers F_ascending_numbers T Er C G_is_list G_is_count)
  have G_is_packet : DefR l.prog w K mg base (L2.CX l.prog w) anyR "is_packet" 3 ["fields", "thing"] (spY K 2 (YPk CF)) := M_is_packet rfl (ok_is_packet F_is_packet T G_ascending_fields G_is_count)
  have G_spares : DefR l.prog w K mg base (L2.CX l.prog w) anyR "spares" 3 ["fields", "numbers"] (spY K 2 (YSp CF CN)) := M_spares rfl (ok_spares F_spares T G_ascending_fields G_ascending_numbers)
  have G_every_packet : Def l.prog w K mg base "every_packet" 1 ["choices"] (spXN K 1 PEv) := M_every_packet rfl (ok_every F_every_packet T)
  have B_spares : DefRK l.prog w K mg base (L2.CX l.prog w) anyR "spares" 3 ["fields", "numbers"] ["numbers", "fields"] swap2 (spY K 2 (YSp CF CN)) := ⟨_, _, _, PySem.W.mg_of X G a7, k7, kb_swap_fields_numbers (dV := .none) fun _ _ => rfl, ok_spares F_spares T G_ascending_fields G_ascending_numbers⟩
  have B_samples : DefRK l.prog w K mg base (L2.CX l.prog w) anyR "samples" 4 ["fields", "numbers"] ["numbers", "fields"] swap2 (spY K 2 (YSm CF CN)) := ⟨_, _, _, PySem.W.mg_of X G a8, k8, kb_swap_fields_numbers (dV := .none) fun _ _ => rfl, ok_samples F_samples T G_spares G_every_packet⟩
  have G__law_begun : Def l.prog w K mg base "_law_begun" 1 ["script"] (spBegun K) := M__law_begun rfl (ok_begun F__law_begun T)
  have G__law_mixed : Def l.prog w K mg base "_law_mixed" 1 ["state"] (spMixed) := M__law_mixed rfl (ok_mixed F__law_mixed T)
  have G__law_take : Def l.prog w K mg base "_law_take" 2 ["state", "size"] (spTake) := M__law_take rfl (ok_take F__law_take T G__law_mixed)
  have G__law_pick : Def l.prog w K mg base "_law_pick" 3 ["state", "some"] (spPick K) := M__law_pick rfl (ok_pick F__law_pick T G__law_take)
  have G__law_shuffled : Def l.prog w K mg base "_law_shuffled" 3 ["state", "some"] (spShuf K) := M__law_shuffled rfl (ok_shuf F__law_shuffled T G__law_take)
  have G__law_frame : Def l.prog w K mg base "_law_frame" 4 ["state", "upto"] (spFrame K) := M__law_frame rfl (ok_frame F__law_frame T G__law_take G__law_shuffled)
  have G__law_odd : Def l.prog w K mg base "_law_odd" 4 ["state"] (spOdd K) := M__law_odd rfl (ok_odd F__law_odd T G__law_pick)
  have G__law_near_fields : Def l.prog w K mg base "_law_near_fields" 5 ["state"] (spNF K) := M__law_near_fields rfl (ok_nearF F__law_near_fields T G__law_take G__law_pick G__law_frame)
  have G__law_near_numbers : Def l.prog w K mg base "_law_near_numbers" 5 ["state"] (spNN K) := M__law_near_numbers rfl (ok_nearN F__law_near_numbers T G__law_take G__law_pick G__law_shuffled)
  have G__law_are_fields : Def l.prog w K mg base "_law_are_fields" 1 ["thing_here"] (spX K 1 PAreF) := M__law_are_fields rfl (ok_areF F__law_are_fields T)
  have G__law_are_numbers : Def l.prog w K mg base "_law_are_numbers" 1 ["thing_here"] (spX K 1 PAreN) := M__law_are_numbers rfl (ok_areN F__law_are_numbers T)
  have J__law_caught : JobDef l.prog w K mg base "_law_caught" 5 6 ["job"] (TCaught K CW) := ⟨_, _, PySem.W.mg_of X G a15, k15, F__law_caught.binds (ps := ["job"]) fun _ _ _ _ _ _ us hl => match us, hl with | [_], _ => rfl, fun fs s0 H0 f tl J => ok_caught F__law_caught Er fs s0 H0 f tl J⟩
  have J__law_word : JobDef l.prog w K mg base "_law_word" 5 7 ["job"] (TWord K CF CN) := ⟨_, _, PySem.W.mg_of X G a18, k18, F__law_word.binds (ps := ["job"]) fun _ _ _ _ _ _ us hl => match us, hl with | [_], _ => rfl, fun fs s0 H0 f tl J => ok_word F__law_word T Er J__law_caught fs s0 H0 f tl J⟩
  exact ok_law l23 c23 TB T hs G__law_begun G__law_near_fields G__law_near_numbers G__law_are_fields G__law_are_numbers G__law_odd J__law_word G_is_packet G_spares B_spares B_samples
end Mw
open PySem PySem.W PyProof.Rows
set_option maxHeartbeats 0 in
theorem PySem.Challenge.cw_markedways_k03_fields_and_numbers_refuse_holds : PySem.Challenge.rw_markedways_k03_fields_and_numbers_refuse.Holds := by
  w_on; o_law; k_head; (case hw => w_witness2)
  k_fill
  refine Mw.walk_T (l := PySem.Challenge.rw_markedways_k03_fields_and_numbers_refuse) (n := 63) (k := 8) (x := "script") (sp := fun K P => Mw.spLaw K P) rfl (by decide) rfl ⟨⟨rfl, by decide, by decide⟩, rfl⟩ (by decide +kernel) (fun w h Y => PySem.W.km_in_of Y) ?F (fun K H P a ns hl h1 h2 hS => ⟨a, ns, rfl, h1, h2, hS, hl, fun _ => rfl⟩)
  case F =>
    intro w mg fa h Y KX G hmg
    refine' Mw.all_mk KX G hmg (PySem.W.km_tabs_of Y 192 (by decide)) ?a1 ?l1 ?c1 ?k1 ?a2 ?l2 ?c2 ?k2 ?a3 ?l3 ?c3 ?k3 ?a4 ?l4 ?c4 ?k4 ?a5 ?l5 ?c5 ?k5 ?a6 ?l6 ?c6 ?k6 ?a7 ?l7 ?c7 ?k7 ?a8 ?l8 ?c8 ?k8 ?a9 ?l9 ?c9 ?k9 ?a10 ?l10 ?c10 ?k10 ?a11 ?l11 ?c11 ?k11 ?a12 ?l12 ?c12 ?k12 ?a13 ?l13 ?c13 ?k13 ?a14 ?l14 ?c14 ?k14 ?a15 ?l15 ?c15 ?k15 ?a16 ?l16 ?c16 ?k16 ?a17 ?l17 ?c17 ?k17 ?a18 ?l18 ?c18 ?k18 ?a19 ?l19 ?c19 ?k19 ?a20 ?l20 ?c20 ?k20 ?a21 ?l21 ?c21 ?k21 ?a22 ?l22 ?c22 ?k22 ?a23 ?l23 ?c23 ?k23 ?z1 ?z2 ?z3 ?z4 ?z5 ?z6 ?z7 ?z8 ?z9 ?z10 ?z11 ?z12 ?z13 ?z14 ?z15 ?yi_MOST_LETTERS ?yi_MOST_FIELDS ?yi_MOST_NUMBERS ?yt_LETTERS ?u4_BARRED ?u5_BARRED ?u6_BARRED ?u7_BARRED ?u8_BARRED ?u9_BARRED ?eW ?gF ?xF ?pF ?bF ?tF ?hgF ?hkF ?hdF ?haF ?hmF ?wF ?gN ?xN ?pN ?bN ?tN ?hgN ?hkN ?hdN ?haN ?hmN ?wN ?hn ?ht ?iFF ?iFN ?iNF ?iNN ?hh ?np
    (case a1 => k_is); (case l1 => k_is); (case c1 => k_is); (case k1 => k_is); (case a2 => k_is); (case l2 => k_is); (case c2 => k_is); (case k2 => k_is); (case a3 => k_is); (case l3 => k_is); (case c3 => k_is); (case k3 => k_is); (case a4 => k_is); (case l4 => k_is); (case c4 => k_is); (case k4 => k_is); (case a5 => k_is); (case l5 => k_is); (case c5 => k_is); (case k5 => k_is); (case a6 => k_is); (case l6 => k_is); (case c6 => k_is); (case k6 => k_is); (case a7 => k_is); (case l7 => k_is); (case c7 => k_is); (case k7 => k_is); (case a8 => k_is); (case l8 => k_is); (case c8 => k_is); (case k8 => k_is); (case a9 => k_is); (case l9 => k_is); (case c9 => k_is); (case k9 => k_is); (case a10 => k_is); (case l10 => k_is); (case c10 => k_is); (case k10 => k_is); (case a11 => k_is); (case l11 => k_is); (case c11 => k_is); (case k11 => k_is); (case a12 => k_is); (case l12 => k_is); (case c12 => k_is); (case k12 => k_is); (case a13 => k_is); (case l13 => k_is); (case c13 => k_is); (case k13 => k_is); (case a14 => k_is); (case l14 => k_is); (case c14 => k_is); (case k14 => k_is); (case a15 => k_is); (case l15 => k_is); (case c15 => k_is); (case k15 => k_is); (case a16 => k_is); (case l16 => k_is); (case c16 => k_is); (case k16 => k_is); (case a17 => k_is); (case l17 => k_is); (case c17 => k_is); (case k17 => k_is); (case a18 => k_is); (case l18 => k_is); (case c18 => k_is); (case k18 => k_is); (case a19 => k_is); (case l19 => k_is); (case c19 => k_is); (case k19 => k_is); (case a20 => k_is); (case l20 => k_is); (case c20 => k_is); (case k20 => k_is); (case a21 => k_is); (case l21 => k_is); (case c21 => k_is); (case k21 => k_is); (case a22 => k_is); (case l22 => k_is); (case c22 => k_is); (case k22 => k_is); (case a23 => k_is); (case l23 => k_is); (case c23 => k_is); (case k23 => k_is); (case z1 => k_is); (case z2 => k_is); (case z3 => k_is); (case z4 => k_is); (case z5 => k_is); (case z6 => k_is); (case z7 => k_is); (case z8 => k_is); (case z9 => k_is); (case z10 => k_is); (case z11 => k_is); (case z12 => k_is); (case z13 => k_is); (case z14 => k_is); (case z15 => k_is); (case yi_MOST_LETTERS => k_is); (case yi_MOST_FIELDS => k_is); (case yi_MOST_NUMBERS => k_is); (case yt_LETTERS => k_is); (case u4_BARRED => k_is); (case u5_BARRED => k_is); (case eW => k_is); (case gF => k_is); (case xF => k_exc); (case pF => k_is); (case bF => k_is); (case tF => k_is); (case hgF => k_is); (case hkF => k_is); (case hdF => k_is); (case haF => k_is); (case hmF => k_is); (case wF => kts_exm); (case gN => k_is); (case xN => k_exc); (case pN => k_is); (case bN => k_is); (case tN => k_is); (case hgN => k_is); (case hkN => k_is); (case hdN => k_is); (case haN => k_is); (case hmN => k_is); (case wN => kts_exm); (case hn => k_is); (case ht => k_is); (case iFF => kit_is); (case iFN => kit_is); (case iNF => kit_is); (case iNN => kit_is); (case hh => kernel_rfl); (case np => kernel_rfl)
    (case u6_BARRED => rfl); (case u7_BARRED => rfl); (case u8_BARRED => decide)
    (case u9_BARRED => exact .cons ⟨_, rfl⟩ (.cons ⟨_, rfl⟩ (.cons ⟨_, rfl⟩ (.cons ⟨_, rfl⟩ (.nil)))))
