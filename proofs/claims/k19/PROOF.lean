import PyProof.Rows.All
import Wide.All
import OpenK.AllK
import Wide.FinOn
import HandS.ForMost
import HandS.Wide
import HandS.IsInst
import HandS.Defaults
import PyProof.ReprRoads
import HandS.Flow
import HandS.Style
import HandS.WideBits
import PySem.Challenge.RW_blockmoves_k19_statements_made
import HandS.Set
import HandS.SetFor
import HandS.Strs
import HandS.List
import HandS.More
import HandS.Walk
import HandS.Comp
import HandS.DeepEq
import HandS.Sort
import HandS.Text
import PyProof.Rows.StrLast
import KE.KIntText
import HandS.Star
import HandS.OwnEq
import HandS.Exc
import KE.KOpsOwn
import KE.KFmtOwn
import KE.KxPart
import KE.SortData
import KE.KDictPairs
import HandS.DictTup
import KE.KDictWalk
import PyProof.InstEq
import KE.KParD
import HandS.DictComp
import HandS.Codes
import HandS.FStr
import PyProof.Rows.RegStrFacts
import HandS.ExcInit
import HandS.ExcField
import KE.KExcIs
import HandS.MakeKwOnly
import HandS.ExcOwn
import HandS.ExcValue
import HandS.ExcIs
import HandS.ExcCtx
import HandS.Lambda
import HandS.HotCalls
import PyProof.CallFns
import KE.KSuper
import HandS.SetBool
import KE.DataMinMax
import HandS.SortKw
import HandS.NoneIn
import PyProof.StrLawsChain
import PyProof.StrLawsTight
import HandS.Head0
import HandS.Head1
import HandS.Head2
import HandS.HeadEnd
import HandS.HeadHook1
import HandS.HeadHook2
set_option Elab.async false
set_option linter.all false
set_option maxRecDepth 100000
/-! ## LwA -/
set_option maxHeartbeats 4000000
namespace Lw
open PySem PySem.Spec PyProof.Rows L2

/-! ### an object looked at in another way -/
/-- what may be looked at otherwise -/
def Lt : HO → Prop
  | .lst _ => True
  | .ext _ => True
  | _ => False
/-- the same heap, some lists looked at otherwise -/
structure Rc (H H1 : Hp) : Prop where
  no : ∀ b, H b = none → H1 b = none
  lt : ∀ b o, H b = some o → H1 b = some o ∨ (Lt o ∧ ∃ o', H1 b = some o' ∧ Lt o')
theorem Rc.keep {H H1 : Hp} (r : Rc H H1) {b : Addr} {o : HO} (h : H b = some o) (n : ¬ Lt o) : H1 b = some o := by
  rcases r.lt b o h with e | ⟨l, _⟩
  · exact e
  · exact absurd l n
theorem Rc.refl (H : Hp) : Rc H H := ⟨fun _ h => h, fun _ _ h => .inl h⟩
theorem Rc.put {H : Hp} {a : Addr} {o u : HO} (h : H a = some o) (l : Lt o) (l' : Lt u) : Rc H (upd H a u) := ⟨fun b n => by
    rw [upd_ne (fun z => by rw [z, h] at n; cases n)]
    exact n, fun b v e => by
    by_cases hb : b = a
    · subst hb
      rw [h] at e
      cases e
      exact .inr ⟨l, u, upd_same, l'⟩
    · exact .inl (by rw [upd_ne hb]; exact e)⟩
section
variable {P : Program} {w : World} {H H1 H2 H3 : Hp} {h h' : Heap} {fs ex : List Addr}
theorem Rc.hok {a : Addr} {o u : HO} (x : HOk P w H h) (e : H a = some o) (l : Lt o) (new : ObjOk P w H h a u) : HOk P w (upd H a u) h := fun b v q => by
  have no : ∀ {c : Addr} {z : HO}, H c = some z → ¬ Lt z → c ≠ a := fun {c z} hc n q => by
    rw [q, e] at hc
    cases hc
    exact n l
  have stay : ∀ {b : Addr} {v : HO}, ObjOk P w H h b v → ObjOk P w (L2.upd H a u) h b v := fun {b v} x => x.stay (fun c v _ q => q) (fun c q => by rw [upd_ne (no q fun z => z)]; exact q) fun c xs q => by rw [upd_ne (no q fun z => z)]; exact q
  by_cases hb : b = a
  · subst hb
    rw [upd_same] at q
    cases q
    exact stay new
  · rw [upd_ne hb] at q
    exact stay (x b v q)
theorem Rc.un (r : Rc H H1) (r' : Rc H2 H3) (U : Un fs ex H1 H2 h h') : Un fs ex H H3 h h' where
  keep := fun b o q n h1 h2 => U.keep b o q (r.no b n) h1 h2
  slot := fun b o q n h1 h2 => U.slot b o q (r.no b n) h1 h2
  free := fun b o q n h1 => r'.no b (U.free b o q (r.no b n) h1)
  there := fun b o q h1 => U.there b o q h1
  tups := fun b xs q => r'.keep (U.tups b xs (r.keep q fun z => z)) fun z => z
  frzs := fun b o u q => r'.keep (U.frzs b o u (r.keep q fun z => z)) fun z => z
  tbls := fun b ps q => by
    obtain ⟨m, e⟩ := U.tbls b ps (r.keep q fun z => z)
    exact ⟨m, r'.keep e fun z => z⟩
end
theorem Rc.back {H H1 : Hp} (r : Rc H H1) {b : Addr} (n : H1 b = none) : H b = none := by
  cases e : H b with
  | none => rfl
  | some o =>
    rcases r.lt b o e with q | ⟨_, o', q, _⟩
    · rw [n] at q
      cases q
    · rw [n] at q
      cases q
/-- a promise over the other look -/
theorem recast {P : Program} {w : World} {K : PySem.W.Frag} {mg : Str → Option Value} {base : Heap} {k : Nat} {f : Addr} {fd : FuncData} {ps : List Str} {sp sp' : Sp} (F : FnOk P w K mg base CX0 k f fd ps sp) (len : ∀ vs H Q E, sp' vs H Q E → vs.length = ps.length)
    (hs : ∀ vs H Q E (h : Heap), sp' vs H Q E → HOk P w H h → ∃ H1, Rc H H1 ∧ HOk P w H1 h ∧ sp vs H1 (fun v H2 => ∀ h', HOk P w H2 h' → ∃ H3, Rc H2 H3 ∧ HOk P w H3 h' ∧ Q v H3) E0) : FnOk P w K mg base CX0 k f fd ps sp' := by
  refine ⟨len, fun A outer s H args us vs Q E hr e0 hb hv h => ?_⟩
  obtain ⟨H1, r, ok1, q⟩ := hs vs H Q E s.heap h e0.hok
  have e1 : Env0 P w K mg base A outer s H1 := ⟨e0.frames, e0.mod, fun b o e => ⟨(e0.bs b o e).1, r.no b (e0.bs b o e).2⟩, e0.bsz, e0.funs, fun b hb => r.no b (e0.frf b hb), ok1, e0.bare⟩
  refine codeAny_mono (F.run A outer s H1 args us vs _ _ hr e1 hb hv q) fun rr s' hq => ?_
  cases rr with
  | error e => exact hq
  | ok fl =>
    cases fl with
    | ret u =>
      obtain ⟨v, H2, os, bare, un, hok, rv, q2⟩ := hq
      obtain ⟨H3, r3, ok3, q3⟩ := q2 _ hok
      exact ⟨v, H3, os, bare, r.un r3 un, ok3, rv, q3⟩
    | next => exact hq
    | brk => exact hq
    | cont => exact hq

/-! ### what numbers are drawn from: a list of three ints that only the draws read -/
/-- the bounds of a drawn state -/
structure DB (s d : Int) : Prop where
  s0 : 0 ≤ s
  s1 : s < 2147483587
  d0 : 0 ≤ d
def DrawO (a : Addr) : HO := .ext fun h => ∃ (s d n : Int) (its : List Value) (m : Nat), DB s d ∧ Vals [V.int s, V.int d, V.int n] its ∧ h.get? a = some { cls := .type "list", data := .seq its.toArray m }
theorem draw_of {P : Program} {w : World} {H : Hp} {h : Heap} {a : Addr} {s d n : Int} (b : DB s d) (x : ObjOk P w H h a (.lst [.int s, .int d, .int n])) : ObjOk P w H h a (DrawO a) := by
  obtain ⟨_, its, m, r, e⟩ := x
  exact ⟨⟨s, d, n, its, m, b, r, e⟩, ⟨_, e⟩, fun h1 h2 ⟨s, d, n, its, m, b, r, e⟩ k => ⟨s, d, n, its, m, b, r, k _ e⟩⟩
theorem draw_to {P : Program} {w : World} {H : Hp} {h : Heap} {a : Addr} (x : ObjOk P w H h a (DrawO a)) : ∃ s d n, DB s d ∧ ObjOk P w H h a (.lst [.int s, .int d, .int n]) := by
  obtain ⟨⟨s, d, n, its, m, b, r, e⟩, _, _⟩ := x
  exact ⟨s, d, n, b, (by show 3 ≤ sizeLine; decide), its, m, r, e⟩

/-! ### ways joined -/
section
variable {X : Cx} {e : Expr} {te : TE} {tA : TT}
def tMid (te : TE) : TE := fun σ H Q => ∃ R : VK, te σ H R ∧ ∀ v H', R v H' → Q v H'
theorem pe_mid (h : PE X e te) : PE X e (tMid te) := ⟨fun pins s σ H Q I hq => by
  obtain ⟨R, h1, h2⟩ := hq
  exact thn (h.run pins s σ H R I h1) fun u s1 ⟨v, H1, I1, r, q⟩ => ⟨v, H1, I1, r, h2 _ _ q⟩⟩
def tMidT (t : TT) : TT := fun σ H Q => ∃ R : Bool → Hp → Prop, t σ H R ∧ ∀ b H', R b H' → Q b H'
theorem pt_mid (h : PT X e tA) : PT X e (tMidT tA) := ⟨fun pins s σ H Q I hq => by
  obtain ⟨R, h1, h2⟩ := hq
  exact thn (h.run pins s σ H R I h1) fun b s1 ⟨H1, I1, q⟩ => ⟨H1, I1, h2 _ _ q⟩⟩
end
theorem at_int {xs : List V} {r : Int} (h0 : 0 ≤ r) (h1 : r < xs.length) : ∃ v, atI xs r = some v ∧ v ∈ xs := by
  obtain ⟨j, rfl⟩ : ∃ j : Nat, r = (j : Int) := ⟨r.toNat, by omega⟩
  have hj : j < xs.length := by omega
  exact ⟨xs[j], atI_nat (List.getElem?_eq_getElem hj), List.getElem_mem hj⟩
theorem at_nat {xs : List Nat} {r : Int} (h0 : 0 ≤ r) (h1 : r < xs.length) : ∃ v, atI xs r = some v ∧ v ∈ xs := by
  obtain ⟨j, rfl⟩ : ∃ j : Nat, r = (j : Int) := ⟨r.toNat, by omega⟩
  have hj : j < xs.length := by omega
  exact ⟨xs[j], atI_nat (List.getElem?_eq_getElem hj), List.getElem_mem hj⟩
theorem mem_cutV {xs : List V} {lo hi : Option Int} {v : V} (h : v ∈ cutV xs lo hi) : v ∈ xs := List.mem_of_mem_drop (List.mem_of_mem_take h)
theorem Same.new {H : Hp} {p : Addr} {o : HO} (h : H p = none) : Same H (upd H p o) := fun a u e => by
  rw [upd_ne (ne_of_none e h)]
  exact e

/-! ### the promises -/
/-- what was tracked stands, v is so: Q of it -/
def Gives (H : Hp) (Q : VK) (p : V → Hp → Prop) : Prop := ∀ v H', Same H H' → p v H' → Q v H'
def spRollL : Sp := fun vs H Q _ => ∃ (a : Addr) (s d n m : Int), vs = [.ref a, .int m] ∧ H a = some (.lst [.int s, .int d, .int n]) ∧ DB s d ∧ 0 < m ∧ m.natAbs < 2 ^ 200 ∧
  ∀ (r s' d' n' : Int) (H' : Hp), 0 ≤ r → r < m → DB s' d' → H' = upd H a (.lst [.int s', .int d', .int n']) → Q (.int r) H'
/-- a number from 0 to m - 1 -/
def spRoll : Sp := fun vs H Q _ => ∃ (a : Addr) (m : Int), vs = [.ref a, .int m] ∧ H a = some (DrawO a) ∧ 0 < m ∧ m.natAbs < 2 ^ 200 ∧ ∀ r : Int, 0 ≤ r → r < m → Q (.int r) H
theorem roll_recast {P : Program} {w : World} {K : PySem.W.Frag} {mg : Str → Option Value} {base : Heap} {k : Nat} {f : Addr} {fd : FuncData} {ps : List Str} (hps : ps.length = 2) (F : FnOk P w K mg base CX0 k f fd ps spRollL) : FnOk P w K mg base CX0 k f fd ps spRoll := by
  refine recast F (fun vs H Q E h => ?_) fun vs H Q E h q ok => ?_
  · obtain ⟨a, m, rfl, _⟩ := h
    exact hps.symm
  · obtain ⟨a, m, rfl, ha, h0, h1, q⟩ := q
    obtain ⟨s, d, n, b, x⟩ := draw_to (ok a _ ha)
    refine ⟨upd H a (.lst [.int s, .int d, .int n]), Rc.put ha True.intro True.intro, Rc.hok ok ha True.intro x, a, s, d, n, m, rfl, upd_same, b, h0, h1, fun r s' d' n' H' r0 r1 b' e h' ok' => ?_⟩
    subst e
    refine ⟨H, ?_, ?_, q r r0 r1⟩
    · have e : upd (upd (upd H a (.lst [.int s, .int d, .int n])) a (.lst [.int s', .int d', .int n'])) a (DrawO a) = H := by
        rw [upd_upd, upd_upd]
        funext b
        by_cases hb : b = a
        · rw [hb, upd_same, ha]
        · rw [upd_ne hb]
      rw [← e]
      have z := Rc.put (H := upd (upd H a (.lst [.int s, .int d, .int n])) a (.lst [.int s', .int d', .int n'])) (a := a) (u := DrawO a) upd_same True.intro True.intro
      rw [e] at z ⊢
      exact z
    · have e : upd (upd (upd H a (.lst [.int s, .int d, .int n])) a (.lst [.int s', .int d', .int n'])) a (DrawO a) = H := by
        rw [upd_upd, upd_upd]
        funext b
        by_cases hb : b = a
        · rw [hb, upd_same, ha]
        · rw [upd_ne hb]
      rw [← e]
      exact Rc.hok ok' upd_same True.intro (draw_of b' (ok' a _ upd_same))
end Lw

/-! ## LwG -/
set_option maxHeartbeats 4000000
/-! Promises of defs that are called where no guard of the C level is set (repr of a list asks for that). -/
namespace Lw
open PySem PySem.Spec PyProof.Rows L2
/-- room, and no guard -/
structure RoomG (k : Nat) (A : Around) : Prop where
  rm : Room k A
  gd : A.guards = some []
theorem RoomG.mono {j k : Nat} {A : Around} (r : RoomG k A) (h : j ≤ k) : RoomG j A := ⟨r.rm.mono h, r.gd⟩
theorem RoomG.deeper {k : Nat} {A : Around} (r : RoomG (k + 1) A) (env : Env) : RoomG k (A.deeper env) := ⟨r.rm.deeper env, r.gd⟩
theorem RoomG.units {k : Nat} {A : Around} (r : RoomG k A) : A.units + 64 < cLine := r.rm.units
/-- the def at f keeps the promise sp -/
structure FnG (P : Program) (w : World) (K : PySem.W.Frag) (mg : Str → Option Value) (base : Heap) (k : Nat) (f : Addr) (fd : FuncData) (ps : List Str) (sp : Sp) : Prop where
  len : ∀ vs H Q E, sp vs H Q E → vs.length = ps.length
  run : ∀ (A : Around) (outer : List Env) (s : Shared) (H : Hp) (args : Args) (us : List Value) (vs : List V) (Q : VK), RoomG k A → Env0 P w K mg base A outer s H → BindsTo s fd args (ps.zip us) → Vals vs us → sp vs H Q E0 →
    codeAny (model P w) A (.call (.ref f) args) (CR CX0 outer P w H s Q E0) s
section
variable {P : Program} {w : World} {K : PySem.W.Frag} {mg : Str → Option Value} {base : Heap} {k : Nat} {f : Addr} {fd : FuncData} {ps : List Str} {sp sp' : Sp}
theorem FnG.of (F : FnOk P w K mg base CX0 k f fd ps sp) : FnG P w K mg base k f fd ps sp := ⟨F.len, fun A outer s H args us vs Q hr => F.run A outer s H args us vs Q E0 hr.rm⟩
theorem FnG.mono {j : Nat} (F : FnG P w K mg base j f fd ps sp) (h : j ≤ k) : FnG P w K mg base k f fd ps sp := ⟨F.len, fun A outer s H args us vs Q hr => F.run A outer s H args us vs Q (hr.mono h)⟩
theorem FnG.imp (F : FnG P w K mg base k f fd ps sp) (h : ∀ vs H Q E, sp' vs H Q E → sp vs H Q E) : FnG P w K mg base k f fd ps sp' :=
  ⟨fun vs H Q E q => F.len vs H Q E (h _ _ _ _ q), fun A outer s H args us vs Q hr he hb hv hs => F.run A outer s H args us vs Q hr he hb hv (h _ _ _ _ hs)⟩
/-- a def of the text, by its body -/
theorem okG {x qual : Str} {st : Stmt} {N : List Str} (F : Fun K x qual st f fd) (S : FnScope N ps (defScope st)) (len : ∀ vs H Q E, sp vs H Q E → vs.length = ps.length)
    (hbody : ∀ (cdv : Value) (A : Around) (outer : List Env) (s : Shared) (H : Hp) (vs : List V) (Q : VK), RoomG k (A.deeper (envOfC qual (defScope st) s.heap.objs.size f cdv)) → sp vs H Q E0 →
      ∃ t, PSs (cxOf CX0 P w K mg base N qual (defScope st) f cdv A outer s H E0).nox (defBody st) t ∧ t { nx := fun _ H' => Q .non H', rt := Q } (start N vs) H) : FnG P w K mg base (k + 1) f fd ps sp := by
  obtain ⟨oc, od, kV, doc, pm, an, cdv, ct, osl, rfl, lk, hcd⟩ := F.ex
  refine ⟨len, fun A outer s H args us vs Q hr e0 hb r hsp => ?_⟩
  have below : ∀ b o, base.get? b = some o → s.heap.get? b = some o := fun b o e => (e0.bs b o e).1
  have KX := e0.mod.kin.keeps below
  have lim := e0.mod.nolimit.keeps below
  have bound : ∀ y ∈ ps.zip us, (defScope st).names.lookup y.1 = some .local ∨ ((defScope st).names.lookup y.1 = some .cell ∧ ((cellsFrom (s.heap.objs.size + 1) (defScope st).names []).lookup y.1).isSome = true) := fun ⟨n, v⟩ hy =>
    (S.par n (List.of_mem_zip hy).1).elim .inl fun q => .inr ⟨q, PySem.W.cellsFrom_some _ _ _ (.inl q)⟩
  refine codeAny_call_function hr.rm.depth (KX _ _ lk) rfl S.co S.gen rfl (PySem.W.codeRec_of KX hcd) (hb _ _ _ _ ?_)
  refine wpAny_newFunctionEnv_cells S.kind bound fun env he s1 x => ?_
  subst he
  refine ⟨lim.keeps x.toInCall.keep, codeAny_func ?_⟩
  obtain ⟨t, ht, hq⟩ := hbody cdv A outer s H vs Q (hr.deeper _) hsp
  have I := inv_start (CX := CX0) (E := E0) S hr.rm.hd e0 (len _ _ _ _ hsp) r x
  refine wpAny_mono (ht.nox.run [] s1 (start N vs) H _ I hq) (fun fl s' hs => ?_) fun e s' hs => hs
  cases fl with
  | ret u =>
    obtain ⟨v, σ', H', J, rv, q⟩ := hs
    exact ⟨v, H', J.os, J.bare, J.base, J.hok, rv, q⟩
  | next =>
    obtain ⟨σ', H', J, q⟩ := hs
    exact ⟨V.non, H', J.os, J.bare, J.base, J.hok, rfl, q⟩
  | brk => exact hs.elim fun _ h => h.elim fun _ h => h.2.elim
  | cont => exact hs.elim fun _ h => h.elim fun _ h => h.2.elim
end
/-- a def of the module, by its promise -/
structure Cal (P : Program) (w : World) (K : PySem.W.Frag) (mg : Str → Option Value) (base : Heap) (k : Nat) (x : Str) (ps : List Str) (sp : Sp) : Prop where
  ex : ∃ (f : Addr) (fd : FuncData), FnG P w K mg base k f fd ps sp ∧ mg x = some (.ref f) ∧ PySem.W.keepIn K (.ref f) = true ∧ (∀ us : List Value, us.length = ps.length → bindArgs fd ⟨us, []⟩ = pure (ps.zip us)) ∧
    (∀ u : Value, ps.length = 1 → bindArgs fd ⟨[], ps.zip [u]⟩ = pure (ps.zip [u]))
section
variable {X : Cx} {k j : Nat} {x : Str} {ps : List Str} {sp : Sp} {p pos : Pos} {e : Expr} {es : List Expr} {kws : List Keyword} {t tk : TA}
theorem run_g {f : Addr} {fd : FuncData} {args : Args} {us : List Value} {vs : List V} {pins : List (Addr × Obj)} {σ : L2.St} {H : Hp} {s : Shared} {Q : VK} (F : FnG X.prog X.w X.K X.mg X.base k f fd ps sp) (hr : RoomG k X.A) (b : bindArgs fd args = pure (ps.zip us))
    (I : Inv X pins σ H s) (r : Vals vs us) (h : sp vs H Q E0) : codeAny (model X.prog X.w) X.A (.call (.ref f) args) (fun r s' => match r with | .ok (.ret u) => EP X pins σ Q u s' | .ok _ => False | .error e => X.xe e s') s := by
  refine codeAny_mono (F.run X.A X.stack s H args us vs Q hr I.env0 (.of_eq b) r h) fun r s' hq => ?_
  cases r with
  | error e => exact False.elim hq
  | ok fl =>
    cases fl with
    | ret u => exact I.after hq
    | next => exact hq
    | brk => exact hq
    | cont => exact hq
theorem pe_c (c : Cal X.prog X.w X.K X.mg X.base k x ps sp) (hr : RoomG j X.A) (hk : k ≤ j) (hg : Gl X x) (ha : PA X (e :: es) t)
    (hdb : (x == ("__debug__" : Str)) = false := by decide) (he : starEach (e :: es) X.env = (false, eval e X.env) :: starEach es X.env := by rfl) (hpl : (backTo pos (starEach es X.env)).any (·.1) = false := by rfl) :
    PE X (.Call (.Name x p) (e :: es) [] pos) (tCall sp [] E0 t) := by
  obtain ⟨f, fd, F, hm, kp, b, _⟩ := c.ex
  refine ⟨fun pins s σ H Q I h => ?_⟩
  refine wpAny_Call_Name_kw (ld_glob I hg hm ?_ hdb)
  refine PySem.W.callWith_K (h₀ := X.base) I.ok.mod.kin kp (thn (ha.run pos pins s σ H _ I h) fun us s1 ⟨vs, H1, I1, r, q⟩ => ⟨I1.kIn, ?_⟩) he hpl
  have q : sp vs H1 Q E0 := by
    have q' : sp (vs ++ []) H1 Q E0 := q
    rwa [List.append_nil] at q'
  show wpAny _ _ (call (.ref f) us) _ _ _
  exact wpAny_call (codeAny_mono (run_g F (hr.mono hk) (b us (by rw [← r.length]; exact F.len _ _ _ _ q)) I1 r q) fun r s' z => by
    rcases r with e | (v | _ | _ | _) <;> exact z)
theorem pe_c0 (c : Cal X.prog X.w X.K X.mg X.base k x ps sp) (hr : RoomG j X.A) (hk : k ≤ j) (hg : Gl X x)
    (hdb : (x == ("__debug__" : Str)) = false := by decide) : PE X (.Call (.Name x p) [] [] pos) (tCall sp [] E0 tNil) := by
  obtain ⟨f, fd, F, hm, kp, b, _⟩ := c.ex
  refine ⟨fun pins s σ H Q I h => ?_⟩
  refine wpAny_Call_Name_kw (ld_glob I hg hm ?_ hdb)
  have q : sp [] H Q E0 := h
  exact PySem.W.callWith_K0 I.kIn kp (wpAny_call (codeAny_mono (run_g F (hr.mono hk) (b [] (F.len _ _ _ _ q)) I .nil q) fun r s' z => by
    rcases r with e | (v | _ | _ | _) <;> exact z))
/-- f(k = e), a def of one parameter -/
theorem pe_ck (c : Cal X.prog X.w X.K X.mg X.base k x ps sp) (hr : RoomG j X.A) (hk : k ≤ j) (hps : ps.length = 1) (hg : Gl X x) (hkw : PK X kws tk)
    (hall : (backToKw pos (keywordEach kws X.env)).all (·.1.isSome) = true := by rfl) (hks : (backToKw pos (keywordEach kws X.env)).filterMap (·.1) = ps := by rfl) (hdb : (x == ("__debug__" : Str)) = false := by decide)
    (hpl : ((backTo pos (starEach [] X.env)).any (·.1) || (backToKw pos (keywordEach kws X.env)).any (·.1.isNone)) = false := by rfl) :
    PE X (.Call (.Name x p) [] kws pos) (tCall sp [] E0 tk) := by
  obtain ⟨f, fd, F, hm, kp, _, b⟩ := c.ex
  refine ⟨fun pins s σ H Q I h => ?_⟩
  refine wpAny_Call_Name_kw (ld_glob I hg hm ?_ hdb)
  refine PySem.W.callWith_KW0 (h₀ := X.base) I.ok.mod.kin kp hall ?_ hpl
  refine thn (hkw.run pos pins s σ H _ I h) fun us s1 ⟨vs, H1, I1, r, q⟩ => ⟨I1.kIn, ?_⟩
  rw [hks]
  have q : sp vs H1 Q E0 := by
    have q' : sp (vs ++ []) H1 Q E0 := q
    rwa [List.append_nil] at q'
  have l1 : vs.length = 1 := (F.len _ _ _ _ q).trans hps
  obtain ⟨u, rfl⟩ : ∃ u, us = [u] := by
    have l2 : us.length = 1 := r.length.symm.trans l1
    match us, l2 with
    | [u], _ => exact ⟨u, rfl⟩
  exact wpAny_call (codeAny_mono (run_g F (hr.mono hk) (b u hps) I1 r q) fun r s' z => by
    rcases r with e | (v | _ | _ | _) <;> exact z)
end
/-- repr of data -/
def rRepr (K : PySem.W.Frag) : List V → Hp → VK → Prop := fun xs H Q => ∃ (a : Addr) (d : PyData), xs = [.ref a] ∧ Dp K H (.ref a) d ∧ d.showable = true ∧ d.hasDict = false ∧ d.depth ≤ 50 ∧ d.shown.length ≤ sizeLine ∧ Q (.str d.shown) H
theorem call_repr {X : Cx} {k : Nat} (hr : RoomG k X.A) : CallR X (.builtin "repr") (rRepr X.K) := by
  intro pins s σ H xs us Q I r h
  obtain ⟨a, d, rfl, hd, hs, hx, hdep, hl, q⟩ := h
  obtain ⟨u, rfl, rx⟩ := vals1 r
  obtain ⟨as, rd⟩ := Dp.reads I d _ u hd rx
  cases (show u = Value.ref a from rx)
  have hu := hr.units
  exact repr_of_reads' rd hs (fun z => by rw [hx] at z; cases z) hr.gd (by omega) (fun _ _ e => e) (fun h' u tk kk => ⟨.str d.shown, H, I.kept (h' := h') (t' := tk) kk, ⟨u, rfl⟩, q⟩) hl

/-- the end of a law's row -/
theorem law_end {P : Program} {w : World} {K : PySem.W.Frag} {mg mb : Str → Option Value} {k : Nat} {fa a : Addr} {fd : FuncData} {x : Str} {sp : Sp} {s₁ : Shared} {vs : List Value} {ns : List Int}
    (KX : K.In s₁.heap) (hns : s₁.heap.Ns mainGlobals mg) (hb : s₁.heap.Ns builtinsNs mb) (hbb : ∀ x : Str, x ≠ "__name__" → mb x = bootBuiltins x) (hlim : s₁.heap.NoLimit) (hg : s₁.gens = #[])
    (ha : s₁.heap.get? a = some { cls := .type "list", data := .seq vs.toArray }) (hi : IntsAre vs ns) (hl : ns.length ≤ sizeLine) (hr : RoomG k callerA)
    (F : ∀ base : Heap, K.In base → base.Ns mainGlobals mg → FnG P w K mg base k fa fd [x] sp) (hbind : ∀ u : Value, bindArgs fd ⟨[u], []⟩ = pure [(x, u)])
    (hsp : ∀ H : Hp, Only H → SqL K H a (ns.map V.int) → sp [.ref a] H (fun v _ => v = .bl true) E0) :
    codeAny (model P w) callerA (.call (.ref fa) ⟨[.ref a], []⟩) (fun r s' => r = .ok (.ret (.bool true)) ∧ OldK s₁.heap s'.heap ∧ s'.os = s₁.os ∧ AllBare s'.gens) s₁ := by
  have rv := vals_ints hi
  have lenV := hi.length
  have hsz : (ns.map V.int).length ≤ sizeLine := by rw [List.length_map]; exact hl
  have core : ∀ H : Hp, Only H → SqL K H a (ns.map V.int) → HOk P w H s₁.heap → (∀ b, H b ≠ none → b = a) → (H a ≠ none → K.lookup a = none) →
      codeAny (model P w) callerA (.call (.ref fa) ⟨[.ref a], []⟩) (fun r s' => r = .ok (.ret (.bool true)) ∧ OldK s₁.heap s'.heap ∧ s'.os = s₁.os ∧ AllBare s'.gens) s₁ := by
    intro H hO hS hok hA hK
    have free : ∀ {b : Addr} {o : Obj}, s₁.heap.get? b = some o → (b = a → False) → H b = none := fun {b o} _ n => by
      cases q : H b with
      | none => rfl
      | some u => exact (n (hA b (by rw [q]; simp))).elim
    have nsK : ∀ {b : Addr} {m : Str → Option Value}, s₁.heap.Ns b m → (hidT s₁.heap H).Ns b m := fun {b m} ⟨o, es, ep, e, d, r⟩ => ⟨o, es, ep, hidT_get e (free e fun z => by
      subst z
      rw [ha] at e
      cases e
      cases d), d, r⟩
    have hKb : K.In (hidT s₁.heap H) := fun b o e => hidT_get (KX b o e) (by
      cases q : H b with
      | none => rfl
      | some u =>
        have z := hA b (by rw [q]; simp)
        subst z
        rw [hK (by rw [q]; simp)] at e
        cases e)
    have hM : Mod K mg (hidT s₁.heap H) := ⟨hKb, nsK hns, ⟨mb, nsK hb, hbb⟩, hlim.elim fun mc h => ⟨mc, nsK h.1, h.2⟩⟩
    have nofr : ∀ b, b ∉ frs [] := fun b hb => by cases hb
    have e0 : Env0 P w K mg (hidT s₁.heap H) callerA [] s₁ H := ⟨rfl, hM, fun b o e => of_hidT e, Nat.le_of_eq (hidT_size _ _), trivial, fun b hb => (nofr b hb).elim, hok, .of_eq hg⟩
    refine codeAny_mono ((F _ hKb (nsK hns)).run callerA [] s₁ H ⟨[.ref a], []⟩ [.ref a] [.ref a] _ hr e0 (.of_eq (hbind (.ref a))) (.cons rfl .nil) (hsp H hO hS)) fun r s' h => ?_
    match r, h with
    | .ok (.ret u), ⟨v, H', os, bare, un, hok', r', q⟩ =>
      have q' : v = .bl true := q
      subst q'
      obtain rfl : u = Value.bool true := r'
      refine ⟨rfl, OldK.of_keep fun b o e => ?_, os, bare⟩
      rcases hO b with z | ⟨ob, xs, z⟩
      · exact un.keep b o e z (nofr b) (fun q => by cases q)
      · have e1 := (hok b _ z).1
        rw [e] at e1
        cases e1
        exact (hok' b _ (un.frzs b _ _ z)).1
  cases hk : K.lookup a with
  | some o =>
    have e := KX a o hk
    rw [ha] at e
    cases e
    exact core (fun _ => none) (fun _ => .inl rfl) (.inr ⟨_, vs.toArray, _, hk, rfl, rfl, rfl, by rw [List.size_toArray, lenV]; exact hl, by simpa using rv⟩) (fun b u z => nomatch z) (fun b z => (z rfl).elim) fun z => (z rfl).elim
  | none =>
    have at_ : ∀ {b : Addr} {u : HO}, (if b = a then some (HO.frz { cls := .type "list", data := .seq vs.toArray } (.lst (ns.map V.int))) else none) = some u → b = a ∧ u = HO.frz { cls := .type "list", data := .seq vs.toArray } (.lst (ns.map V.int)) := fun {b u} z => by
      split at z
      · exact ⟨by assumption, (Option.some.inj z).symm⟩
      · cases z
    refine core (fun b => if b = a then some (.frz { cls := .type "list", data := .seq vs.toArray } (.lst (ns.map V.int))) else none) (fun b => ?_) (.inl (.inr ⟨_, if_pos rfl⟩)) (fun b u z => ?_) (fun b z => ?_) fun _ => hk
    · by_cases hb : b = a
      · exact .inr ⟨_, _, if_pos hb⟩
      · exact .inl (if_neg hb)
    · obtain ⟨rfl, rfl⟩ := at_ z
      exact ⟨ha, hsz, vs, _, rv, ha⟩
    · by_cases hb : b = a
      · exact hb
      · exact (z (if_neg hb)).elim
theorem walk_end {l : PySem.W.OpenLaw} {n k : Nat} {q : Program} {loose : List Str} {XP : (Str → Option Value) → Heap → Prop} {YP : World → Heap → Prop} {d : DefRec} {K : Params → PySem.W.Frag} {sp : PySem.W.Frag → Sp} {x : Str}
    (hn : l.most = some n) (hn2 : n ≤ sizeLine) (hdf : d.params.defaults = []) (hr : RoomG k callerA) (hY : ∀ (w : World) (h : Heap), YP w h → (K w.params).In h)
    (F : ∀ (w : World) (mg : Str → Option Value) (fa : Addr) (h : Heap), (K w.params).In h → h.Ns mainGlobals mg → mg d.name = some (.ref fa) →
      ∃ fd : FuncData, (∀ u : Value, bindArgs fd ⟨[u], []⟩ = pure [(x, u)]) ∧ ∀ base : Heap, (K w.params).In base → base.Ns mainGlobals mg → FnG l.prog w (K w.params) mg base k fa fd [x] (sp (K w.params)))
    (hsp : ∀ (K : PySem.W.Frag) (H : Hp) (a : Addr) (ns : List Int), ns.length ≤ n → Only H → SqL K H a (ns.map V.int) → sp K [.ref a] H (fun v _ => v = .bl true) E0) :
    PySem.W.WalkO q loose XP YP l.row.toRowW d [] (fun f vs => PySem.call f vs) := by
  refine Att.attach_call hn hdf fun w s₀ s₁ mg mb fa o pm cd doc a vs ns G Y ho hd hcd hmg hobj hints hlen hg => ?_
  obtain ⟨fd, hb, hF⟩ := F w mg fa _ (hY w _ Y) G.T.g hmg
  exact law_end (hY w _ Y) G.T.g G.T.b G.T.builtins G.T.nolimit hg hobj hints (Nat.le_trans hlen hn2) hr hF hb (fun H hO hS => hsp (K w.params) H a ns hlen hO hS)
end Lw

/-! ## FkB -/
set_option maxHeartbeats 4000000
namespace Lw
open PySem PySem.Spec PyProof.Rows L2
def topS (i : Nat) : Stmt := PySem.Challenge.pw_blockmoves_k19_statements_made.main.body.getD i (.Pass ⟨0, 0, 0, 0⟩)

abbrev s__law_cell : Stmt := topS 70
abbrev n__law_cell : List Str := ["_law_script", "_law_k", "_law_found", "_law_number"]
theorem sc__law_cell : FnScope n__law_cell ["_law_script", "_law_k"] (defScope s__law_cell) := ⟨rfl, rfl, rfl, by decide +kernel, rfl, by decide +kernel, by decide +kernel⟩

abbrev s__law_purse : Stmt := topS 71
abbrev n__law_purse : List Str := ["_law_number"]
theorem sc__law_purse : FnScope n__law_purse ["_law_number"] (defScope s__law_purse) := ⟨rfl, rfl, rfl, by decide +kernel, rfl, by decide +kernel, by decide +kernel⟩

abbrev s__law_take : Stmt := topS 72
abbrev n__law_take : List Str := ["_law_purse_here", "_law_many", "_law_more", "_law_seed", "_law_digit"]
theorem sc__law_take : FnScope n__law_take ["_law_purse_here", "_law_many"] (defScope s__law_take) := ⟨rfl, rfl, rfl, by decide +kernel, rfl, by decide +kernel, by decide +kernel⟩

/-- the built-ins that stand -/
structure Blt (mg : Str → Option Value) : Prop where
  b_len : mg "len" = none
  b_int : mg "int" = none
  b_abs : mg "abs" = none
  b_divmod : mg "divmod" = none
/-- len of what is picked from -/
theorem call_lenU {X : Cx} : CallR X (.builtin "len") (fun xs H Q => (∃ p ys, xs = [.ref p] ∧ (SqL X.K H p ys ∨ SqT X.K H p ys) ∧ Q (.int ys.length) H) ∨ ∃ z, xs = [.str z] ∧ z.length ≤ sizeLine ∧ Q (.int z.length) H) := by
  intro pins s σ H xs us Q I r h
  rcases h with ⟨p, ys, rfl, hq, q⟩ | ⟨z, rfl, hz, q⟩
  · exact call_len_seq pins s σ H _ us Q I r ⟨p, ys, rfl, hq, q⟩
  · exact call_len_str pins s σ H _ us Q I r ⟨z, rfl, hz, q⟩
theorem sz1000 {n : Nat} (h : n ≤ 1000) : n ≤ sizeLine := Nat.le_trans h (by decide)
/-- an int -/
def spCellI (K : PySem.W.Frag) : Sp := fun vs H Q _ => ∃ (a : Addr) (ns : List Int) (k : Int), vs = [.ref a, .int k] ∧ SqL K H a (ns.map V.int) ∧ ns.length ≤ 63 ∧ 0 ≤ k ∧ k ≤ 63 ∧ ∀ (z : Int) (H' : Hp), Same H H' → Q (.int z) H'
/-- what is drawn from: its third number counts the draws -/
structure PurseAt (H : Hp) (a : Addr) (n : Int) : Prop where
  ex : ∃ d s k : Int, H a = some (.lst [.int d, .int s, .int k]) ∧ 0 ≤ d ∧ 0 ≤ s ∧ s < 2147483629 ∧ 0 ≤ k ∧ k ≤ n
theorem PurseAt.le {H : Hp} {a : Addr} {n m : Int} (h : PurseAt H a n) (l : n ≤ m) : PurseAt H a m := by
  obtain ⟨d, s, k, e, d0, s0, s1, k0, k1⟩ := h.ex
  exact ⟨d, s, k, e, d0, s0, s1, k0, by omega⟩
theorem PurseAt.same {H H' : Hp} {a : Addr} {n : Int} (h : PurseAt H a n) (s : Same H H') : PurseAt H' a n := by
  obtain ⟨d, z, k, e, r⟩ := h.ex
  exact ⟨d, z, k, s _ _ e, r⟩
/-- H' keeps all of H but x -/
def OffP (x : Addr) (H H' : Hp) : Prop := ∀ b o, b ≠ x → H b = some o → H' b = some o
theorem OffP.refl {x : Addr} {H : Hp} : OffP x H H := fun _ _ _ e => e
theorem OffP.trans {x : Addr} {H H1 H2 : Hp} (a : OffP x H H1) (b : OffP x H1 H2) : OffP x H H2 := fun c o n e => b c o n (a c o n e)
theorem OffP.of {x : Addr} {H H1 : Hp} (a : Same H H1) : OffP x H H1 := fun c o _ e => a c o e
/-- the purse after at most c draws more -/
structure Spent (a : Addr) (n c : Int) (H H' : Hp) : Prop where
  off : OffP a H H'
  pu : PurseAt H' a (n + c)
theorem Spent.trans {a : Addr} {n c d e : Int} {H H1 H2 : Hp} (x : Spent a n c H H1) (y : Spent a (n + c) d H1 H2) (h : c + d ≤ e) : Spent a n e H H2 := ⟨x.off.trans y.off, y.pu.le (by omega)⟩
theorem Spent.same {a : Addr} {n c : Int} {H H1 H2 : Hp} (x : Spent a n c H H1) (y : Same H1 H2) : Spent a n c H H2 := ⟨x.off.trans (.of y), x.pu.same y⟩
theorem Spent.le {a : Addr} {n c d : Int} {H H1 : Hp} (x : Spent a n c H H1) (h : c ≤ d) : Spent a n d H H1 := ⟨x.off, x.pu.le (by omega)⟩
theorem PurseAt.spent {a : Addr} {n : Int} {H : Hp} (h : PurseAt H a n) : Spent a n 0 H H := ⟨.refl, h.le (by omega)⟩
/-- a new purse -/
def spPurse : Sp := fun vs H Q _ => ∃ z : Int, vs = [.int z] ∧ ∀ a H', Same H H' → H a = none → PurseAt H' a 0 → Q (.ref a) H'
/-- a number from 0 to m - 1 -/
def spTake : Sp := fun vs H Q _ => ∃ (a : Addr) (m n : Int), vs = [.ref a, .int m] ∧ PurseAt H a n ∧ n ≤ 100000 ∧ 0 < m ∧ m ≤ 1000 ∧ ∀ (r : Int) H', 0 ≤ r → r < m → Spent a n 1 H H' → Q (.int r) H'
theorem mod_sd (i : Int) : 0 ≤ i % 2147483629 ∧ i % 2147483629 < 2147483629 := ⟨Int.emod_nonneg _ (by decide), Int.emod_lt_of_pos _ (by decide)⟩
theorem nat64 {m : Int} (h0 : 0 < m) (h1 : m ≤ 1000) : m.natAbs < 2 ^ 64 := Nat.lt_of_le_of_lt (show m.natAbs ≤ 1000 by omega) (by decide)
theorem divp_big {i m : Int} (h0 : 0 < m) (h1 : m ≤ 1000) : CDivP i m := ⟨h0, PyProof.noPylong_of_log2 (wide_div (i := i) (j := m) (b := 64) h0 (nat64 h0 h1) (by decide) (by decide)).2⟩
theorem OffP.put {x : Addr} {H : Hp} {o : HO} : OffP x H (upd H x o) := fun b u n e => by rw [upd_ne n]; exact e
section
variable {P : Program} {w : World} {K : PySem.W.Frag} {mg : Str → Option Value} {base : Heap}
theorem ok_take {f : Addr} {fd : FuncData} (F : Fun K "_law_take" "_law_take" s__law_take f fd) (T : Blt mg) : FnG P w K mg base 1 f fd ["_law_purse_here", "_law_many"] spTake := by
  refine okG F sc__law_take (fun vs H Q E h => ?_) (fun cdv A outer s H vs Q hr h => ?_)
  · obtain ⟨a, m, n, rfl, _⟩ := h
    rfl
  · obtain ⟨a, m, n, rfl, ⟨d, z, k, ha, d0, z0, z1, k0, k1⟩, n1, m0, m1, q⟩ := h
    refine ⟨_, (pss_cons (ps_asg (pe_op op_add (pe_ix ix_list (pv 0) pe_int (fun _ _ => rfl)) pe_int) (pg_sub (pv 0) pe_int set_list))
  (pss_cons (ps_set (i := 2) sc__law_take.nd rfl (by first | exact .inl rfl | exact .inr rfl) (pe_op op_add (pe_op op_mul (pe_op op_mul (pe_ix ix_list (pv 0) pe_int (fun _ _ => rfl)) (pe_ix ix_list (pv 0) pe_int (fun _ _ => rfl))) pe_int) pe_int))
  (pss_cons (ps_set (i := 3) sc__law_take.nd rfl (by first | exact .inl rfl | exact .inr rfl) (pe_op op_mod (pe_callTy call_int1 (by rfl) T.b_int (by decide +kernel) (pa_cons (pe_op op_add (pe_op op_mul (pe_ix ix_list (pv 0) pe_int (fun _ _ => rfl)) pe_int) (pv 2)) pa_nil)) pe_int))
  (pss_cons (ps_asg (pv 3) (pg_sub (pv 0) pe_int set_list))
  (pss_cons (ps_if (pt_cmpR op_gt (pe_ix ix_list (pv 0) pe_int (fun _ _ => rfl)) pe_int (nomark _))
    (pss_cons (ps_asg (pe_callB call_divmodW (by rfl) T.b_divmod (by decide +kernel) (pa_cons (pe_ix ix_list (pv 0) pe_int (fun _ _ => rfl)) (pa_cons (pv 1) pa_nil))) (pg_tup rfl (pgs_cons (pg_sub (pv 0) pe_int set_list) (pgs_cons (pg_name (i := 4) sc__law_take.nd rfl (by first | exact .inl rfl | exact .inr rfl)) pgs_nil))))
  (pss_one (ps_ret (pv 4))))
    pss_nil)
  (pss_one (ps_ret (pe_op op_mod (pe_op op_fdiv (pe_op op_mod (pe_callTy call_int1 (by rfl) T.b_int (by decide +kernel) (pa_cons (pe_op op_add (pe_op op_mul (pv 3) (pe_op op_add (pe_op op_mod (pe_callTy call_int1 (by rfl) T.b_int (by decide +kernel) (pa_cons (pv 3) pa_nil)) pe_int) pe_int)) (pe_ix ix_list (pv 0) pe_int (fun _ _ => rfl))) pa_nil)) pe_int) pe_int) (pv 1))))))))), ?_⟩
    refine ⟨_, rfl, a, _, 2, _, rfl, rfl, SqL.of ha, rfl, _, _, rfl, rfl, _, rfl, a, _, 2, 2, rfl, rfl, ha, rfl, ?_⟩
    refine ⟨_, rfl, a, _, 2, _, rfl, rfl, SqL.of upd_same, rfl, _, rfl, a, _, 2, _, rfl, rfl, SqL.of upd_same, rfl, _, _, rfl, rfl, .inl ⟨by omega, by omega⟩, _, _, rfl, rfl, .inr ⟨by decide, by decide⟩, _, _, rfl, rfl, ?_⟩
    refine ⟨_, rfl, a, _, 1, _, rfl, rfl, SqL.of upd_same, rfl, _, _, rfl, rfl, .inr ⟨by decide, by decide⟩, _, rfl, _, _, rfl, rfl, .inl ⟨_, rfl, _, _, rfl, rfl, (by show (0 : Int) < 2147483629; decide), ?_⟩⟩
    refine ⟨_, rfl, _, rfl, a, _, 1, 1, rfl, rfl, upd_same, rfl, ?_⟩
    refine ⟨_, rfl, a, _, 0, _, rfl, rfl, SqL.of upd_same, rfl, _, _, rfl, rfl, _, rfl, ?_⟩
    have hs0 := (mod_sd (z * 65539 + ((k + 1) * (k + 1) * 15485863 + 32452843))).1
    have hs1 := (mod_sd (z * 65539 + ((k + 1) * (k + 1) * 15485863 + 32452843))).2
    rw [upd_upd]
    refine ite2 (fun _ => ?_) (fun _ => ?_)
    · refine ⟨_, rfl, a, _, 0, _, rfl, rfl, SqL.of upd_same, rfl, _, rfl, d, m, rfl, divp_big m0 m1, fun p hp => ?_⟩
      have hpa : a ≠ p := fun e => by rw [← e, upd_same] at hp; cases hp
      refine ⟨p, _, rfl, SqT.of upd_same, rfl, _, _, rfl, _, rfl, a, _, 0, 0, rfl, rfl, (by rw [upd_ne hpa]; exact upd_same), rfl, _, _, rfl, rfl, ?_⟩
      refine ⟨_, rfl, q _ _ (Int.emod_nonneg _ (by omega)) (Int.emod_lt_of_pos _ m0) ⟨OffP.put.trans ((OffP.of (Same.new hp)).trans OffP.put), ⟨_, _, _, upd_same, Int.ediv_nonneg d0 (by omega), (mod_sd _).1, (mod_sd _).2, by omega, by omega⟩⟩⟩
    · refine ⟨_, rfl, _, rfl, .inl ⟨_, rfl, _, _, rfl, rfl, (by show (0 : Int) < 30011; decide), _, _, rfl, rfl, _, _, rfl, rfl, .inl ⟨by omega, by omega⟩, ?_⟩⟩
      refine ⟨_, rfl, a, _, 2, _, rfl, rfl, SqL.of upd_same, rfl, _, _, rfl, rfl, .inl ⟨_, rfl, _, _, rfl, rfl, (by show (0 : Int) < 2147483587; decide), _, _, rfl, rfl, ⟨by decide, by decide⟩, _, rfl, _, _, rfl, rfl, m0, ?_⟩⟩
      exact q _ _ (Int.emod_nonneg _ (by omega)) (Int.emod_lt_of_pos _ m0) ⟨OffP.put, ⟨_, _, _, upd_same, d0, (mod_sd _).1, (mod_sd _).2, by omega, by omega⟩⟩
theorem ok_purse {f : Addr} {fd : FuncData} (F : Fun K "_law_purse" "_law_purse" s__law_purse f fd) (T : Blt mg) : FnG P w K mg base 1 f fd ["_law_number"] spPurse := by
  refine okG F sc__law_purse (fun vs H Q E h => ?_) (fun cdv A outer s H vs Q hr h => ?_)
  · obtain ⟨z, rfl, _⟩ := h
    rfl
  · obtain ⟨z, rfl, k⟩ := h
    refine ⟨_, (pss_one (ps_ret (pe_lst (pa_cons (pe_mid (pe_ifExp (PW.pt (pw_or (pt_cmpR op_lt (pv 0) pe_int (nomark _)) (pw_or1 (pt_cmpR op_ge (pv 0) (pe_op op_pow pe_int pe_int) (nomark _))))) (pe_callB call_abs (by rfl) T.b_abs (by decide +kernel) (pa_cons (pv 0) pa_nil)) pe_int)) (pa_cons (pe_op op_mod (pe_callTy call_int1 (by rfl) T.b_int (by decide +kernel) (pa_cons (pv 0) pa_nil)) pe_int) (pa_cons pe_int pa_nil)))))), ?_⟩
    refine ⟨fun v H' => ∃ d : Int, 0 ≤ d ∧ v = .int d ∧ H' = H, ?_, fun v H' ⟨d, d0, ev, eH⟩ => ?_⟩
    · refine ⟨_, rfl, _, _, rfl, rfl, _, rfl, ?_⟩
      have ab : (0 : Int) ≤ if z < 0 then -z else z := by split <;> omega
      refine ite2 (fun _ => ⟨_, rfl, _, rfl, _, ab, rfl, rfl⟩) (fun _ => ?_)
      refine ⟨_, rfl, _, _, rfl, rfl, ⟨by decide, by decide, by decide⟩, _, _, rfl, rfl, _, rfl, ?_⟩
      exact ite2 (fun _ => ⟨_, rfl, _, rfl, _, ab, rfl, rfl⟩) (fun _ => ⟨0, Int.le_refl 0, rfl, rfl⟩)
    · subst ev eH
      refine ⟨_, rfl, .inl ⟨_, rfl, _, _, rfl, rfl, (by show (0 : Int) < 2147483629; decide), ?_⟩⟩
      refine ⟨(by show 3 ≤ sizeLine; decide), fun p hp => k p _ (Same.new hp) hp ⟨_, _, _, upd_same, d0, (mod_sd _).1, (mod_sd _).2, by omega, by omega⟩⟩
theorem ok_cell {f : Addr} {fd : FuncData} (F : Fun K "_law_cell" "_law_cell" s__law_cell f fd) (T : Blt mg) : FnG P w K mg base 1 f fd ["_law_script", "_law_k"] (spCellI K) := by
  refine okG F sc__law_cell (fun vs H Q E h => ?_) (fun cdv A outer s H vs Q hr h => ?_)
  · obtain ⟨a, ns, z, rfl, _⟩ := h
    rfl
  · obtain ⟨a, ns, z, rfl, hS, hl, z0, z1, k⟩ := h
    refine ⟨_, (pss_cons (ps_if (pt_cmpR op_lt (pv 1) (pe_callB call_len_seq (by rfl) T.b_len (by decide +kernel) (pa_cons (pv 0) pa_nil)) (nomark _))
    (pss_one (ps_ret (pe_ix ix_list (pv 0) (pv 1) (fun _ _ => rfl))))
    pss_nil)
  (pss_cons (ps_set (i := 2) sc__law_cell.nd rfl (by first | exact .inl rfl | exact .inr rfl) (pe_op op_add pe_int (pe_op op_mul (pe_op op_mul pe_int (pv 1)) (pv 1))))
  (pss_cons (ps_for PassesOwn.never rfl (pi_list (pe_slice sl_list (pv 0) po_none (po_some pe_int))) (pg_name (i := 3) sc__law_cell.nd rfl (by first | exact .inl rfl | exact .inr rfl))
    (pss_one (ps_set (i := 2) sc__law_cell.nd rfl (by first | exact .inl rfl | exact .inr rfl) (pe_op op_mod (pe_callTy call_int1 (by rfl) T.b_int (by decide +kernel) (pa_cons (pe_op op_add (pe_op op_mul (pv 2) pe_int) (pv 3)) pa_nil)) pe_int))))
  (pss_one (ps_ret (pv 2)))))), ?_⟩
    refine ⟨_, rfl, _, rfl, a, _, rfl, .inl hS, _, _, rfl, rfl, _, rfl, ?_⟩
    refine ite2 (fun hc => ?_) (fun _ => ?_)
    · obtain ⟨v, e1, e2⟩ := at_int (xs := ns.map V.int) z0 (of_decide_eq_true hc)
      obtain ⟨y, _, rfl⟩ := List.mem_map.mp e2
      exact ⟨_, rfl, _, rfl, a, _, z, _, rfl, rfl, hS, e1, k _ _ (Same.refl H)⟩
    · refine ⟨_, rfl, _, _, rfl, rfl, .inl ⟨by decide, by decide⟩, _, rfl, _, _, rfl, rfl, .inr ⟨by omega, by omega⟩, _, _, rfl, rfl, ?_⟩
      refine ⟨_, rfl, _, rfl, a, _, rfl, hS, fun p hp => ?_⟩
      refine ⟨p, rfl, ⟨_, SqL.of upd_same⟩, for_list (K := K) (a := p) (xs := cutV (ns.map V.int) none (some 5)) (fun i σ H2 => H2 = upd H p (.lst (cutV (ns.map V.int) none (some 5))) ∧ ∃ (m : Int) (v : Option V), σ = [some (.ref a), some (.int z), some (.int m), v])
        ⟨rfl, _, _, rfl⟩ (fun i σ H2 _ ⟨e, _⟩ => by rw [e]; exact SqL.of upd_same) ?_ ?_⟩
      · rintro i y σ H2 hi ⟨rfl, m, v, rfl⟩
        obtain ⟨n, _, rfl⟩ := List.mem_map.mp (mem_cutV (List.mem_of_getElem? hi))
        exact ⟨_, rfl, _, _, rfl, rfl, .inr ⟨by decide, by decide⟩, _, rfl, _, _, rfl, rfl, .inl ⟨_, rfl, _, _, rfl, rfl, (by show (0 : Int) < 2147483629; decide), rfl, _, _, rfl⟩⟩
      · rintro σ H2 ⟨rfl, m, v, rfl⟩
        exact ⟨_, rfl, k _ _ (Same.new hp)⟩
end
end Lw

/-! ## LtS -/
set_option maxHeartbeats 4000000
/-! sets of texts: made of a list of texts, and sorted -/
namespace Lt
open PySem PySem.Spec PyProof.Rows L2
def tx : Value → Str
  | .str x _ => x
  | _ => Str.empty
def tk (e : Int × Value) : Str := tx e.2
def TRow (w : World) (e : Int × Value) : Prop := ∃ x t, e = (hashStr w x, Value.str x t)
/-- a table of the texts xs, in any order -/
structure TTab (w : World) (es : Array (Int × Value)) (t : SetTable) (xs : List Str) : Prop where
  rows : ∀ e ∈ es.toList, TRow w e
  perm : (es.toList.map tk).Perm xs
  nd : xs.Nodup
  sm : es.size < scanBound
  fit : t.fits es.size = true
  ris : Ris t.place.toList
  led : w.params.followText "set-order" = true ∨ t.led = true
/-- the set of the texts xs at a -/
def TSet (w : World) (h : Heap) (a : Addr) (xs : List Str) : Prop := ∃ o es ep t, h.get? a = some o ∧ o.ExactSet ∧ o.data = .set es ep t ∧ TTab w es t xs
/-- with x -/
def ins (x : Str) (xs : List Str) : List Str := if x ∈ xs then xs else x :: xs
theorem mem_ins' {x y : Str} {xs : List Str} : y ∈ ins x xs ↔ y = x ∨ y ∈ xs := by
  unfold ins
  split
  · rename_i h
    exact ⟨.inr, fun q => q.elim (fun e => e ▸ h) id⟩
  · exact List.mem_cons
theorem ins_nodup {x : Str} {xs : List Str} (h : xs.Nodup) : (ins x xs).Nodup := by
  unfold ins
  split
  · exact h
  · rename_i n
    exact List.nodup_cons.mpr ⟨n, h⟩
theorem ins_length {x : Str} {xs : List Str} : (ins x xs).length ≤ xs.length + 1 := by
  unfold ins
  split
  · exact Nat.le_succ _
  · exact Nat.le_refl _
section
variable {P : Program} {w : World} {h h' : Heap} {a : Addr} {xs : List Str} {es : Array (Int × Value)} {t : SetTable}
theorem TSet.at (R : TSet w h a xs) (k : ∀ o, h.get? a = some o → h'.get? a = some o) : TSet w h' a xs := let ⟨o, es, ep, t, ho, r⟩ := R; ⟨o, es, ep, t, k o ho, r⟩
theorem TTab.elems (T : TTab w es t xs) : ElemsOf (strKind P w) es.toList := fun e he => by
  obtain ⟨x, t, rfl⟩ := T.rows e he
  exact ⟨⟨x, strKind_is P w x t, rfl⟩, rfl⟩
theorem row_is {e : Int × Value} (r : TRow w e) (k : Str) : (strKind P w).is k e.2 = true ↔ tk e = k := by
  obtain ⟨x, t, rfl⟩ := r
  constructor
  · intro q
    obtain ⟨u, hu⟩ := Value.isStrOf_shape (show Value.isStrOf k (Value.str x t) = true from q)
    cases hu
    rfl
  · intro q
    cases q
    exact strKind_is P w x t
theorem TTab.len (T : TTab w es t xs) : es.size = xs.length := by rw [← T.perm.length_eq, List.length_map, Array.length_toList]
end
section
variable {P : Program} {w : World} {A : Around} {E : Value → Shared → Prop} {s : Shared} {a : Addr} {xs : List Str}
theorem tset_tail {g : Bool → Sem Unit} (hg : ∀ (b : Bool) (s₁ : Shared) (Q' : Unit → Shared → Prop), Q' () s₁ → wpAny (model P w) A (g b) Q' E s₁)
    {o : Obj} {es : Array (Int × Value)} {ep : Nat} {t : SetTable} (ho : s.heap.get? a = some o) (hex : o.ExactSet) (hd : o.data = .set es ep t)
    {en : Array (Int × Value)} {tn : SetTable} (T : TTab w en tn xs) {was : Bool} {R : Option Bool → Shared → Prop}
    (hR : ∀ h', Heap.SameBut a s.heap h' → TSet w h' a xs → R (some true) { s with heap := h' }) :
    wpAny (model P w) A (do
        storeSet a en tn
        if (!was && tn.tooFull) = true then do
            g (relayAll tn en (SetTable.grown en.size)).2.2
            storeSet a (relayAll tn en (SetTable.grown en.size)).1 (relayAll tn en (SetTable.grown en.size)).2.1
            pure (some true)
          else pure (some true)) R E s := by
  have first := store_at (es' := en) (t' := tn) ho hd
  refine wpAny_bind (wpAny_storeSet_of ho hd ?_ (fits_of_scanBound T.sm))
  cases hc : (!was && tn.tooFull) with
  | false =>
    rw [if_neg (by decide)]
    exact wpAny_pure (hR _ (Heap.SameBut.update s.heap a (Obj.putSet en tn)) ⟨_, en, _, tn, first, hex, rfl, T⟩)
  | true =>
    rw [if_pos rfl]
    have p := relayAll_perm tn en (SetTable.grown en.size)
    have T' : TTab w (relayAll tn en (SetTable.grown en.size)).1 (relayAll tn en (SetTable.grown en.size)).2.1 xs := {
      rows := fun e he => T.rows e (p.mem_iff.mp he)
      perm := (p.map tk).trans T.perm
      nd := T.nd
      sm := by
        have z := p.length_eq
        rw [Array.length_toList, Array.length_toList] at z
        rw [z]
        exact T.sm
      fit := relayAll_fits tn en _
      ris := relayAll_ris tn en _
      led := T.led.imp id fun z => (relayAll_led tn en _).trans z }
    refine wpAny_bind (hg _ _ _ (wpAny_bind (wpAny_storeSet_of first rfl ?_ (fits_of_scanBound T'.sm))))
    exact wpAny_pure (hR _ ((Heap.SameBut.update s.heap a _).trans (Heap.SameBut.update _ a _)) ⟨_, _, _, _, store_at (es' := _) (t' := _) first rfl, hex, rfl, T'⟩)
theorem TTab.add {es : Array (Int × Value)} {t : SetTable} (T : TTab w es t xs) {x : Str} (u : Tok) (n : x ∉ xs) (room : xs.length + 1 < scanBound) : TTab w (layNew t es (hashStr w x) (.str x u)).1 (layNew t es (hashStr w x) (.str x u)).2.1 (x :: xs) := by
  have p := layNew_perm t es (hashStr w x) (.str x u)
  rw [Array.toList_push] at p
  have p := p.trans (List.perm_append_singleton (hashStr w x, Value.str x u) es.toList)
  refine ⟨fun e he => ?_, (p.map tk).trans (T.perm.cons x), List.nodup_cons.mpr ⟨n, T.nd⟩, ?_, layNew_fits _ _ _ _, layNew_ris _ _ _ _ T.ris, T.led.imp id fun z => (layNew_led _ _ _ _).trans z⟩
  · rcases List.mem_cons.mp (p.mem_iff.mp he) with rfl | q
    · exact ⟨x, u, rfl⟩
    · exact T.rows e q
  · have z := p.length_eq
    rw [Array.length_toList, List.length_cons, Array.length_toList, T.len] at z
    rw [z]
    exact room
theorem tset_add {x : Str} {u : Tok} {Q : Bool → Shared → Prop} (R : TSet w s.heap a xs) (room : xs.length + 1 < scanBound) (hQ : ∀ (b : Bool) h', Heap.SameBut a s.heap h' → TSet w h' a (ins x xs) → Q b { s with heap := h' }) :
    wpAny (model P w) A (setAddHashed a (.str x u) ((strKind P w).hash x)) Q E s := by
  obtain ⟨o, es, ep, t, ho, hex, hd, T⟩ := R
  have sc : (Value.str x u).scannable = true := rfl
  unfold setAddHashed setAddHashedIn
  refine wpAny_holding (wpAny_bind (wpAny_setState_of ho hd T.fit ?_))
  dsimp only
  rw [byScan_of sc T.sm (T.elems (P := P))]
  simp only [↓reduceIte]
  unfold setAddByScan
  refine wpAny_bind (wpAny_bind (wpAny_rule (wpAny_bind (wpAny_setScan_of (strKind_is P w x u) ho hd T.fit T.elems ?_))))
  cases hfi : List.findIdx? (fun e => (strKind P w).is x e.2) es.toList with
  | some j =>
    obtain ⟨hj, pj, _⟩ := List.findIdx?_eq_some_iff_getElem.mp hfi
    have hx : x ∈ xs := T.perm.mem_iff.mp (List.mem_map.mpr ⟨_, List.getElem_mem hj, (row_is (T.rows _ (List.getElem_mem hj)) x).mp pj⟩)
    refine wpAny_pure (wpAny_pure (hQ _ s.heap (Heap.SameBut.refl a s.heap) ⟨o, es, ep, t, ho, hex, hd, ?_⟩))
    unfold ins
    rw [if_pos hx]
    exact T
  | none =>
    have hx : x ∉ xs := fun q => by
      obtain ⟨e, he, z⟩ := List.mem_map.mp (T.perm.mem_iff.mpr q)
      have c := List.findIdx?_eq_none_iff.mp hfi e he
      rw [(row_is (T.rows e he) x).mpr z] at c
      cases c
    have T' := T.add u hx room
    have e : ins x xs = x :: xs := if_neg hx
    have e' : (strKind P w).hash x = hashStr w x := rfl
    dsimp only
    rw [e'] at *
    rw [e] at hQ
    generalize layNew t es (hashStr w x) (.str x u) = Z at T' ⊢
    obtain ⟨en, tn, was, gave⟩ := Z
    dsimp only at T' ⊢
    have gw : ∀ (b : Bool) (s₁ : Shared) (Q' : Unit → Shared → Prop), Q' () s₁ → wpAny (model P w) A (match b with | true => rule "set.scan.the-table-gave-way" | false => pure ()) Q' E s₁ := fun b s₁ Q' q => by
      cases b
      · exact wpAny_pure q
      · exact wpAny_rule q
    refine wpAny_bind (gw _ _ _ ?_)
    split
    · refine wpAny_bind ?_
      rw [hashByValue_scannable 8 sc]
      refine wpAny_pure ?_
      refine tset_tail gw ho hex hd (xs := x :: xs) ?_ fun h' sb r => wpAny_pure (hQ _ h' sb r)
      split
      · first | exact T' | exact ⟨T'.rows, T'.perm, T'.nd, T'.sm, SetTable.fits_plain_off T'.fit, T'.ris, T'.led⟩
      · first | exact T' | exact ⟨T'.rows, T'.perm, T'.nd, T'.sm, SetTable.fits_plain_off T'.fit, T'.ris, T'.led⟩
    · refine wpAny_bind (wpAny_pure ?_)
      simp only [↓reduceIte]
      exact tset_tail gw ho hex hd T' fun h' sb r => wpAny_pure (hQ _ h' sb r)
end
/-! ### made of a list -/
/-- an empty set -/
def freshO (w : World) : Obj := { cls := .type "set", dict := none, data := .set #[] 0 (.fresh 0 0 (!w.params.followText "set-order")) }
theorem tset_nil {w : World} {h : Heap} {a : Addr} (ho : h.get? a = some (freshO w)) : TSet w h a [] :=
  ⟨_, #[], 0, _, ho, ⟨rfl, rfl, rfl⟩, rfl, ⟨fun e he => by simp at he, by simp, List.nodup_nil, by decide, by rfl, List.Pairwise.nil, by
    show _ ∨ (!w.params.followText "set-order") = true
    cases w.params.followText "set-order"
    · exact .inr rfl
    · exact .inl rfl⟩⟩
/-- the members of ys so far -/
def SoFar (ys : List Str) (i : Nat) (xs : List Str) : Prop := xs.length ≤ i ∧ ∀ y, y ∈ xs ↔ y ∈ ys.take i
theorem SoFar.next {ys xs : List Str} {i : Nat} {x : Str} (h : SoFar ys i xs) (hx : ys[i]? = some x) : SoFar ys (i + 1) (ins x xs) := by
  refine ⟨Nat.le_trans ins_length (Nat.succ_le_succ h.1), fun y => ?_⟩
  rw [mem_ins', h.2, List.take_add_one, hx, List.mem_append]
  constructor
  · rintro (rfl | q)
    · exact .inr List.mem_cons_self
    · exact .inl q
  · rintro (q | q)
    · exact .inr q
    · exact .inl (List.mem_singleton.mp q)
section
variable {P : Program} {w : World} {A : Around} {E : Value → Shared → Prop} {s : Shared}
theorem tset_loop {I S : Addr} {fp wr : List Addr} {G : Array GenState → Array GenState → Prop} {n : Nat} {Pv : Nat → Value → Prop} {St : Nat → Shared → Prop} {R : Result → Shared → Prop} {ys : List Str}
    (W : WalksS P w A.in1 I fp wr G n Pv St) (out : S ∉ fp) (hn : n = ys.length) (hb : ys.length + 1 < scanBound) (val : ∀ i v, Pv i v → ∃ x t, ys[i]? = some x ∧ v = .str x t)
    (fin : ∀ s0 s' xs, Moved (S :: wr) G s0 s' → s0 = s → SoFar ys n xs → TSet w s'.heap S xs → R (.ok (.ret .none)) s') :
    ∀ (d i : Nat) (s1 : Shared) (xs : List Str), n = i + d → St i s1 → Moved (S :: wr) G s s1 ∨ s1 = s → SoFar ys i xs → TSet w s1.heap S xs → codeAny (model P w) A (.builtin "set.update.loop" ⟨[.ref S, .ref I], []⟩) R s1 := by
  have offw : S ∉ wr := fun q => out (W.sub _ q)
  have wid : ∀ b ∈ wr, b ∈ S :: wr := fun b q => List.mem_cons_of_mem _ q
  have far : ∀ {s1 s2 : Shared}, Moved (S :: wr) G s s1 ∨ s1 = s → Moved (S :: wr) G s1 s2 → Moved (S :: wr) G s s2 := fun m m2 => m.elim (fun q => Moved.trans W.gtrans q m2) fun q => q ▸ m2
  intro d
  induction d with
  | zero =>
    intro i s1 xs hi st mv so T
    refine codeAny_builtin F.entry_set_update_loop ?_
    rw [Around.under_plainId F.plain_set_update_loop _]
    show wpAny _ A.in1 (pyNext (.ref I) >>= _) _ _ s1
    obtain rfl : i = n := hi.symm
    refine wpAny_bind (W.done s1 _ _ st fun s2 m => ?_)
    exact wpAny_pure (fin s s2 xs (far mv (m.mono wid)) rfl so (T.at fun o q => m.heap S o offw q))
  | succ d ih =>
    intro i s1 xs hi st mv so T
    refine codeAny_builtin F.entry_set_update_loop ?_
    rw [Around.under_plainId F.plain_set_update_loop _]
    show wpAny _ A.in1 (pyNext (.ref I) >>= _) _ _ s1
    refine wpAny_bind (W.item i s1 _ _ (by omega) st fun v s2 hv st2 m => ?_)
    obtain ⟨x, t, hx, rfl⟩ := val i v hv
    show wpAny _ A.in1 (holding [Value.str x t] (setAdd S (.str x t)) >>= _) _ _ s2
    refine wpAny_bind (wpAny_holding ?_)
    unfold setAdd
    refine wpAny_holding (wpAny_bind ((strKind P w).pyHash (k := x) (strKind_is _ _ _ _) ?_))
    have T2 : TSet w s2.heap S xs := T.at fun o q => m.heap S o offw q
    refine tset_add (s := { s2 with toks := s2.toks + 1 }) T2 (by have := so.1; omega) fun b h3 sb T3 => ?_
    refine wpAny_pure ⟨plainId_quiet F.plain_set_update_loop _, ih (i + 1) _ (ins x xs) (by omega) (W.frame _ s2 _ _ st2 (Nat.le_succ _) fun c hc o q => ?_) (.inl ?_) (so.next hx) T3⟩
    · rw [sb.2 c fun z => out (z ▸ hc)]
      exact q
    · refine far mv ((m.mono wid).then_heap (Nat.le_succ _) fun c o hc q => ?_)
      rw [sb.2 c fun z => hc (z ▸ List.mem_cons_self)]
      exact q
set_option maxHeartbeats 6400000 in
/-- set(xs), a list of texts -/
theorem call_set_texts {l : Addr} {items : Array Value} {ys : List Str} {Q : Value → Shared → Prop} (hh : A.handled = none) (hl : s.heap.IsList l items) (hi : StrsAre items.toList ys) (hb : ys.length + 1 < scanBound)
    (h : ∀ (h' : Heap) (tk : Nat) (xs : List Str), TSet w h' s.heap.objs.size xs → (∀ y, y ∈ xs ↔ y ∈ ys) → xs.length ≤ ys.length → (∀ b o, s.heap.get? b = some o → h'.get? b = some o) → Q (.ref s.heap.objs.size) { s with heap := h', toks := tk }) :
    wpAny (model P w) A (call (.type "set") [.ref l]) Q E s := by
  have made := F.called_set.made
  have sub := F.called_set.sub
  have h1 := F.called_set.notType
  have h2 := F.called_set.canCreate
  have ct := F.typeCall_set_1 (.ref l)
  obtain ⟨c, tl, mro⟩ := F.called_set.mro
  refine wpAny_call (codeAny_of_tree (wpAny_pure ⟨Code.quiet_builtin _ (by decide +kernel), codeAny_builtin F.entry_type_call ?_⟩))
  rw [Around.under_plain (weight_type_call_type "set" [.ref l] []) rfl]
  repeat (any_goals (first | assumption | wp_step))
  refine codeAny_mono (code_set_led1 (.ref l) (E := E) (Q₁ := fun obj s₁ => obj = .ref s.heap.objs.size ∧ s₁ = { s with heap := s.heap.push (freshO w) }) ⟨rfl, rfl⟩) fun r s₁ hr => ?_
  match r, hr with
  | .error e, hr => exact hr
  | .ok .next, hr => exact hr.elim
  | .ok .brk, hr => exact hr.elim
  | .ok .cont, hr => exact hr.elim
  | .ok (.ret obj), hr =>
    obtain ⟨rfl, rfl⟩ := hr
    have at0 : (s.heap.push (freshO w)).get? s.heap.objs.size = some (freshO w) := Heap.get?_push_size _ rfl
    have isS : Shared.TypeIs { s with heap := s.heap.push (freshO w) } (.ref s.heap.objs.size) "set" := ⟨_, at0, rfl⟩
    have li := F.called_set.init.lookup
    have bi := F.called_set.init.bind (.ref s.heap.objs.size)
    repeat (any_goals (first | assumption | wp_step))
    refine codeAny_mono (codeAny_call_builtin (R := wants (fun r s₂ => r = .none ∧ ∃ h' tk xs, s₂ = { s with heap := h', toks := tk } ∧ TSet w h' s.heap.objs.size xs ∧ (∀ y, y ∈ xs ↔ y ∈ ys) ∧ xs.length ≤ ys.length ∧ (∀ b o, s.heap.get? b = some o → h'.get? b = some o)) E)
      F.called_set.init.plain F.entry_set_init (check_set_init_1 isS ?_)) fun r₂ s₂ hr₂ => ?_
    · obtain ⟨ol, hol, hcl, nl, hdl⟩ := hl
      obtain ⟨ocls, odict, odata, oslots⟩ := ol
      cases (show ocls = _ from hcl)
      cases (show odata = _ from hdl)
      have ol' : (s.heap.push (freshO w)).get? l = some { cls := .type "list", dict := odict, data := .seq items nl, slots := oslots } := Heap.get?_push_of_some _ hol
      have isL0 : s.heap.IsList l items := ⟨_, hol, rfl, nl, rfl⟩
      have isL : (s.heap.push (freshO w)).IsList l items := ⟨_, ol', rfl, nl, rfl⟩
      have n1 := F.sub_list_set
      have n2 := F.sub_list_frozenset
      have n3 : (Value.type "list" == Value.type "dict") = false := by decide
      unfold Builtin.«set.__init__» noKeywords Builtin.Frozenset.updateFrom
      generalize hPI : pyIter = PI
      wp_walk
      subst hPI
      have lt : l < s.heap.objs.size := Heap.lt_size hol
      have sz : (s.heap.push (freshO w)).objs.size = s.heap.objs.size + 1 := Heap.size_push ..
      have hh3 : A.in1.in1.in1.handled = none := by simp [hh]
      have neI : l ≠ (s.heap.push (freshO w)).objs.size := by
        rw [sz]
        exact Nat.ne_of_lt (Nat.lt_succ_of_lt lt)
      have out : s.heap.objs.size ∉ [(s.heap.push (freshO w)).objs.size, l] := by
        rw [sz]
        intro q
        rcases List.mem_cons.mp q with z | z
        · exact Nat.ne_of_lt (Nat.lt_succ_self _) z
        · exact Nat.ne_of_gt lt (List.mem_singleton.mp z)
      have len : items.size = ys.length := by rw [← Array.length_toList]; exact StrsAre.len_eq hi
      refine wpAny_pyIter_list isL (wpAny_bind (wpAny_runValue ?_))
      have g0 : ((s.heap.push (freshO w)).push { cls := .type "list_iterator", data := .fields #[.ref l, .int 0 0] }).get? s.heap.objs.size = some (freshO w) := Heap.get?_push_of_some _ at0
      refine tset_loop ((Walks.list hh3 _ l neI items).toS) out len hb (fun i v hv => ?_) (fun s0 s' xs m e0 so T => ?_) items.size 0 _ [] (Nat.zero_add _).symm ⟨⟨_, Heap.get?_push_size _ rfl, rfl, rfl⟩, isL.push _⟩ (.inr rfl) ⟨Nat.le_refl 0, fun y => by simp⟩ (tset_nil g0)
      · have hi' : i < ys.length := by rw [← len]; exact (Array.getElem?_eq_some_iff.mp hv).1
        obtain ⟨t, e⟩ := SS.strs_at hi i v (by rw [Array.getElem?_toList]; exact hv)
        exact ⟨ys[i], t, List.getElem?_eq_getElem hi', by rw [e, List.getD_eq_getElem?_getD, List.getElem?_eq_getElem hi'] <;> rfl⟩
      · subst e0
        obtain ⟨h', g2, d', tk', os'⟩ := s'
        have eg : g2 = s.gens := m.gens
        have ed : d' = s.drawn := m.drawn
        have eo : os' = s.os := m.os
        subst eg ed eo
        have so1 := so.1
        rw [len] at so1
        refine wpAny_pure (wpAny_pure ⟨rfl, h', tk', xs, rfl, T, fun y => ?_, so1, fun b o q => ?_⟩)
        · rw [so.2 y, len, List.take_length]
        · have lb := Heap.lt_size q
          refine m.heap b o (fun z => ?_) (Heap.get?_push_of_some _ (Heap.get?_push_of_some _ q))
          rcases List.mem_cons.mp z with z | z
          · exact Nat.ne_of_lt lb z
          · exact Nat.ne_of_lt (Nat.lt_succ_of_lt lb) ((List.mem_singleton.mp z).trans sz)
    · match r₂, hr₂ with
      | .error e, hr₂ => exact hr₂
      | .ok .next, hr₂ => exact hr₂.elim
      | .ok .brk, hr₂ => exact hr₂.elim
      | .ok .cont, hr₂ => exact hr₂.elim
      | .ok (.ret r), hr₂ =>
        obtain ⟨rfl, h', tk, xs, rfl, T, m, len, k⟩ := hr₂
        repeat (any_goals (first | assumption | wp_step))
        exact h _ _ xs T m len k
end
/-! ### sorted -/
theorem texts_of : ∀ (l : List Value), (∀ v ∈ l, ∃ x t, v = Value.str x t) → StrsAre l (l.map tx)
  | [], _ => .nil
  | v :: l, h => by
    obtain ⟨x, t, rfl⟩ := h v List.mem_cons_self
    exact .cons x t (texts_of l fun u hu => h u (List.mem_cons_of_mem _ hu))
section
variable {P : Program} {w : World} {A : Around} {E : Value → Shared → Prop} {s : Shared}
theorem sorted_texts {a : Addr} {xs : List Str} {Q : Value → Shared → Prop} (T : TSet w s.heap a xs) (hh : A.handled = none) (h64 : xs.length < 64)
    (hQ : ∀ s' p (out : Array Value) (c : Nat) (ys : List Str), (∀ b o, s.heap.get? b = some o → s'.heap.get? b = some o) → s'.gens = s.gens → s'.os = s.os → s.heap.objs.size ≤ p →
      s'.heap.get? p = some (seqObj "list" out c) → StrsAre out.toList ys → ys.Perm xs → sortedS ys = true → Q (.ref p) s') :
    wpAny (model P w) A (call (.builtin "sorted") [.ref a]) Q E s := by
  obtain ⟨o, es, ep, t, ho, hex, hd, T⟩ := T
  refine Calls.call_function_entry kind_sorted plain_sorted entry_sorted (args_sorted1 _) ?_
  unfold Builtin.«sorted»
  refine wpAny_bind (m := checkCount "sorted" 1 1 _) (wpAny_pure ?_)
  refine wpAny_bind (collect_set (A := A.in1) hh ⟨o, ho, hex.1, hd⟩ T.fit T.sm T.ris T.led fun s1 vs k1 hz g1 o1 pm => ?_)
  have len : vs.length = xs.length := by rw [pm.length_eq, List.length_map, Array.length_toList, T.len]
  have hS : StrsAre vs (vs.map tx) := texts_of vs fun v hv => by
    obtain ⟨e, he, q⟩ := List.mem_map.mp (pm.mem_iff.mp hv)
    obtain ⟨x, t, rfl⟩ := T.rows e he
    exact ⟨x, t, q.symm⟩
  have pk : (vs.map tx).Perm xs := by
    have q := pm.map tx
    rw [List.map_map] at q
    exact q.trans T.perm
  have h64' : vs.length < 64 := by rw [len]; exact h64
  refine wpAny_bind (wpAny_newList ?_ (by rw [sizeLine_eq]; omega))
  have oL : (s1.heap.push (seqObj "list" vs.toArray 0)).get? s1.heap.objs.size = some (seqObj "list" vs.toArray 0) := Heap.get?_push_size _ rfl
  refine wpAny_bind (wpAny_holding (wpAny_call_entry slot_list_sort ⟨_, oL, rfl⟩ entry_list_sort
    (list_sort_treeK strKind_oneLt (s := { s1 with heap := s1.heap.push (seqObj "list" vs.toArray 0) }) oL hS.keysOf (fun v₁ v₂ rest e => keyKind_strs (by rw [← e]; exact hS)) h64' fun st hp hs => ⟨_, rfl, ?_⟩) (args_list_sort _)))
  obtain ⟨ys, y1, y2, y3⟩ := sorted_out_str hS hp hs
  obtain ⟨c, hc⟩ := sortedHeap_at (vs := vs) (out := (arrOf st).map (·.2)) oL
  refine wpAny_pure ⟨_, rfl, hQ _ s1.heap.objs.size ((arrOf st).map (·.2)) c ys (fun b u e => ?_) g1 o1 hz hc y1 (y2.trans pk) y3⟩
  have lb := Heap.lt_size (k1 b u e)
  show (sortedHeap (s1.heap.push (seqObj "list" vs.toArray 0)) s1.heap.objs.size vs ((arrOf st).map (·.2))).get? b = some u
  rw [sortedHeap_old (Nat.ne_of_lt lb) (by rw [size_push']; exact Nat.lt_succ_of_lt lb)]
  exact Heap.get?_push_of_some _ (k1 b u e)
end
/-! ### as rules -/
def TxO (w : World) (a : Addr) (xs : List Str) : HO := .ext fun h => TSet w h a xs
theorem txO_new {w : World} {P : Program} {H : Hp} {h : Heap} {a : Addr} {xs : List Str} (R : TSet w h a xs) : ObjOk P w H h a (TxO w a xs) :=
  let ⟨o, _, _, _, ho, _⟩ := R
  ⟨R, ⟨o, ho⟩, fun _ _ p k => TSet.at p k⟩
/-- set(ys) -/
def rSetT (K : PySem.W.Frag) (w : World) : List V → Hp → VK → Prop := fun vs H Q => ∃ (a : Addr) (ys : List Str), vs = [.ref a] ∧ SqL K H a (ys.map V.str) ∧ ys.length ≤ 1000 ∧
  ∀ (xs : List Str) (p : Addr), (∀ y, y ∈ xs ↔ y ∈ ys) → xs.Nodup → xs.length ≤ ys.length → H p = none → Q (.ref p) (upd H p (TxO w p xs))
/-- sorted(found) -/
def rSortT (w : World) : List V → Hp → VK → Prop := fun vs H Q => ∃ (a : Addr) (xs : List Str), vs = [.ref a] ∧ H a = some (TxO w a xs) ∧ xs.length < 64 ∧
  ∀ (ys : List Str) (p : Addr), ys.Perm xs → sortedS ys = true → H p = none → Q (.ref p) (upd H p (.lst (ys.map V.str)))
section
variable {X : Cx}
theorem call_setT (hc : X.calm = true) : CallR X (.type "set") (rSetT X.K X.w) := by
  intro pins s σ H vs us Q I r h
  obtain ⟨a, ys, rfl, hs, hl, q⟩ := h
  obtain ⟨its, rv, il, _⟩ := I.list hs
  rw [Vals.ref1 r]
  refine call_set_texts (I.ok.hd hc) il.isList rv.strs (by unfold scanBound; omega) fun h' tk xs T m len k => ?_
  have nd : xs.Nodup := let ⟨_, _, _, _, _, _, _, T'⟩ := T; T'.nd
  exact ⟨.ref _, upd H s.heap.objs.size (TxO X.w s.heap.objs.size xs), I.laid (t' := tk) k (Nat.le_refl _) (txO_new T), rfl, q xs _ m nd len (I.hok.fresh (Nat.le_refl _))⟩
theorem call_sortT (hc : X.calm = true) : CallR X (.builtin "sorted") (rSortT X.w) := by
  intro pins s σ H vs us Q I r h
  obtain ⟨a, xs, rfl, ha, h64, q⟩ := h
  have T : TSet X.w s.heap a xs := (I.hok a _ ha).1
  rw [Vals.ref1 r]
  refine sorted_texts T (I.ok.hd hc) h64 fun s' p out c ys k g o le hp hS pm so => ?_
  have hlen : (ys.map V.str).length ≤ sizeLine := by rw [List.length_map, pm.length_eq]; exact small64 h64
  have hn : H p = none := I.hok.fresh le
  have es : s' = { s with heap := s'.heap, gens := s'.gens, drawn := s'.drawn, toks := s'.toks } := by
    rw [← o]
  have J : Inv X pins σ (upd H p (.lst (ys.map V.str))) { s with heap := s'.heap, gens := s'.gens, drawn := s'.drawn, toks := s'.toks } :=
    I.call (ch := []) (Un.laid k le hn) (I.hok.laid k le ⟨hlen, out.toList, c, vals_of_strs hS, hp⟩) (by rw [g]; exact I.bare) fun _ z => nomatch z
  rw [es]
  exact ⟨.ref p, _, J, rfl, q ys p pm so hn⟩
end
end Lt

/-! ## FkC -/
set_option maxHeartbeats 4000000
/-! comprehensions by what they give -/
namespace Lw
open PySem PySem.Spec PyProof.Rows L2
theorem list_of_fn {n : Nat} {ys : List V} {f : Nat → V} (hl : ys.length = n) (h : ∀ i y, ys[i]? = some y → y = f i) : ys = (List.range n).map f := by
  apply List.ext_getElem?
  intro i
  by_cases hi : i < n
  · rw [List.getElem?_map, List.getElem?_range hi, List.getElem?_eq_getElem (by omega : i < ys.length)]
    exact congrArg some (h i _ (List.getElem?_eq_getElem (by omega : i < ys.length)))
  · rw [List.getElem?_eq_none (by omega), List.getElem?_eq_none (by simp; omega)]
/-- each turn leaves what was tracked and gives a value of which R holds -/
theorem lc_gen {J : It} {n : Nat} {G : Hp → Prop} {Y : Nat → Hp → V → Hp → Prop} (w : Walk J n G Y) {R : Nat → V → Hp → Prop} {g : TG} {te : TE} {vs : List Nat} {σ : L2.St} {H1 : Hp} {D : Addr} {Qd : Hp → Prop} (hn : n ≤ 1000) (hD : H1 D = none)
    (mono : ∀ i y H H', R i y H → (∀ a o, a ≠ D → H a = some o → H' a = some o) → R i y H') (hG : ∀ H', Same H1 H' → G H')
    (hs : ∀ i x H H' ys (Q' : VK), i < n → Same H1 H → H D = some (.lst ys) → Y i H x H' → (∀ y H4, Same H H4 → R i y H4 → Q' y H4) → g x (wipe σ vs) H' fun σ2 H2 => wipe σ2 vs = wipe σ vs ∧ te σ2 H2 Q')
    (hd : ∀ H' ys, Same H1 H' → H' D = some (.lst ys) → ys.length = n → (∀ i y, ys[i]? = some y → R i y H') → Qd H') :
    ∃ W : Nat → Nat → Hp → Prop, (∃ m, W 0 m (upd H1 D (.lst []))) ∧ ∀ i m H, W i m H →
      (J.stop i H ∧ Qd H) ∨ (J.go i H ∧ ∃ Nx : Hp → Prop, (∀ H', Nx H' → ∃ m', m' < m ∧ W (i + 1) m' H') ∧ ∀ x H', J.yld i H x H' → g x (wipe σ vs) H' fun σ2 H2 => wipe σ2 vs = wipe σ vs ∧ tYes σ2 H2 fun b H3 =>
        if b = true then te σ2 H3 fun y H4 => ∃ acc, H4 D = some (.lst acc) ∧ acc.length < sizeLine ∧ Nx (upd H4 D (.lst (acc ++ [y]))) else Nx H3) := by
  refine lc_it w (tt := tYes) (fun i H => ∃ ys, Same H1 H ∧ H D = some (.lst ys) ∧ ys.length = i ∧ ∀ j y, ys[j]? = some y → R j y H) ⟨[], Same.new hD, upd_same, rfl, fun j y e => by simp at e⟩ (fun i H _ ⟨_, s, _⟩ => hG H s) (fun i x H H' hi ⟨ys, s, d, l, r⟩ y => ?_) fun H ⟨ys, s, d, l, r⟩ => hd H ys s d l r
  show g x (wipe σ vs) H' fun σ2 H2 => wipe σ2 vs = wipe σ vs ∧ te σ2 H2 fun y H4 => _
  refine hs i x H H' ys _ hi s d y fun v H4 s4 r4 => ⟨ys, s4 _ _ d, Nat.lt_of_le_of_lt (show ys.length ≤ 1000 by omega) (by decide), ys ++ [v], fun a u e => ?_, upd_same, by rw [List.length_append, l]; rfl, fun j z e => ?_⟩
  · rw [upd_ne (ne_of_none e hD)]
    exact s4 _ _ (s _ _ e)
  · have k2 : ∀ a o, a ≠ D → H4 a = some o → upd H4 D (.lst (ys ++ [v])) a = some o := fun a o n e => by
      rw [upd_ne n]
      exact e
    by_cases hj : j < ys.length
    · rw [List.getElem?_append_left hj] at e
      exact mono _ _ _ _ (mono _ _ _ _ (r j z e) fun a o _ e => s4 a o e) k2
    · rw [List.getElem?_append_right (by omega)] at e
      have e0 : j - ys.length = 0 := by
        cases q : j - ys.length with
        | zero => rfl
        | succ m =>
          rw [q] at e
          simp at e
      rw [e0] at e
      obtain rfl : v = z := by simpa using e
      obtain rfl : j = i := by omega
      exact mono _ _ _ _ r4 k2
/-- .. of a function of the turn -/
theorem lc_fn {J : It} {n : Nat} {G : Hp → Prop} {Y : Nat → Hp → V → Hp → Prop} (w : Walk J n G Y) (f : Nat → V) {g : TG} {te : TE} {vs : List Nat} {σ : L2.St} {H1 : Hp} {D : Addr} {Qd : Hp → Prop} (hn : n ≤ 1000) (hD : H1 D = none)
    (hG : ∀ H', Same H1 H' → G H')
    (hs : ∀ i x H H' (Q' : VK), i < n → Same H1 H → Y i H x H' → (∀ H4, Same H H4 → Q' (f i) H4) → g x (wipe σ vs) H' fun σ2 H2 => wipe σ2 vs = wipe σ vs ∧ te σ2 H2 Q')
    (hd : ∀ H', Same H1 H' → H' D = some (.lst ((List.range n).map f)) → Qd H') :
    ∃ W : Nat → Nat → Hp → Prop, (∃ m, W 0 m (upd H1 D (.lst []))) ∧ ∀ i m H, W i m H →
      (J.stop i H ∧ Qd H) ∨ (J.go i H ∧ ∃ Nx : Hp → Prop, (∀ H', Nx H' → ∃ m', m' < m ∧ W (i + 1) m' H') ∧ ∀ x H', J.yld i H x H' → g x (wipe σ vs) H' fun σ2 H2 => wipe σ2 vs = wipe σ vs ∧ tYes σ2 H2 fun b H3 =>
        if b = true then te σ2 H3 fun y H4 => ∃ acc, H4 D = some (.lst acc) ∧ acc.length < sizeLine ∧ Nx (upd H4 D (.lst (acc ++ [y]))) else Nx H3) :=
  lc_gen w (R := fun i y _ => y = f i) hn hD (fun _ _ _ _ h _ => h) hG (fun i x H H' ys Q' hi s d y k => hs i x H H' Q' hi s y fun H4 s4 => k _ H4 s4 rfl)
    fun H' ys s d l r => hd H' s (by rw [d, list_of_fn l r])
end Lw

/-! ## FkD -/
set_option maxHeartbeats 8000000
namespace Lw
open PySem PySem.Spec PyProof.Rows L2
abbrev s_is_integer : Stmt := topS 19
abbrev n_is_integer : List Str := ["value"]
theorem sc_is_integer : FnScope n_is_integer ["value"] (defScope s_is_integer) := ⟨rfl, rfl, rfl, by decide +kernel, rfl, by decide +kernel, by decide +kernel⟩
abbrev s_is_name : Stmt := topS 20
abbrev n_is_name : List Str := ["value", "sign"]
theorem sc_is_name : FnScope n_is_name ["value"] (defScope s_is_name) := ⟨rfl, rfl, rfl, by decide +kernel, rfl, by decide +kernel, by decide +kernel⟩
abbrev s_is_symbol : Stmt := topS 22
abbrev n_is_symbol : List Str := ["value"]
theorem sc_is_symbol : FnScope n_is_symbol ["value"] (defScope s_is_symbol) := ⟨rfl, rfl, rfl, by decide +kernel, rfl, by decide +kernel, by decide +kernel⟩
theorem pe_gl {X : Cx} {x : Str} {v : V} {pos : Pos} (hg : Gl X x) (h : ∃ u, X.mg x = some u ∧ RelV v u) (hdb : (x == ("__debug__" : Str)) = false := by decide) : PE X (.Name x pos) (tC v) := by
  obtain ⟨u, h1, h2⟩ := h
  exact pe_glob hg h1 h2 hdb
def lettersS : Str := "abcdefghijklmnopqrstuvwxyz"
def signsS : Str := "abcdefghijklmnopqrstuvwxyz0123456789"
def atS : Str := "@"
/-- what stands at the top -/
structure Ta (mg : Str → Option Value) : Prop extends Blt mg where
  b_isinstance : mg "isinstance" = none
  b_str : mg "str" = none
  b_tuple : mg "tuple" = none
  b_bool : mg "bool" = none
  b_all : mg "all" = none
  b_sorted : mg "sorted" = none
  b_set : mg "set" = none
  b_range : mg "range" = none
  b_max : mg "max" = none
  b_min : mg "min" = none
  b_repr : mg "repr" = none
  b_dict : mg "dict" = none
  b_sum : mg "sum" = none
  b_list : mg "list" = none
  g__LETTERS : ∃ u, mg "_LETTERS" = some u ∧ RelV (.str lettersS) u
  g__SIGNS : ∃ u, mg "_SIGNS" = some u ∧ RelV (.str signsS) u
  g__LONGEST_NAME : ∃ u, mg "_LONGEST_NAME" = some u ∧ RelV (.int 8) u
  g_MIDDLE : ∃ u, mg "MIDDLE" = some u ∧ RelV (.str atS) u
/-- a tuple -/
def Tp (H : Hp) (a : Addr) (xs : List V) : Prop := H a = some (.tup xs) ∨ ∃ o, H a = some (.frz o (.tup xs))
theorem Tp.same {H H' : Hp} {a : Addr} {xs : List V} (h : Tp H a xs) (s : Same H H') : Tp H' a xs := h.elim (fun h => .inl (s _ _ h)) fun ⟨o, h⟩ => .inr ⟨o, s _ _ h⟩
theorem Tp.sq {K : PySem.W.Frag} {H : Hp} {a : Addr} {xs : List V} (h : Tp H a xs) : SqT K H a xs := .inl h
/-- data as a tree, as far as the questions look -/
inductive Tr where
  | non | bl (b : Bool) | int (i : Int) | str (z : Str) | lst | dct | tup (ts : List Tr)
mutual
inductive TrIs (K : PySem.W.Frag) (H : Hp) : V → Tr → Prop
  | non : TrIs K H .non .non
  | bl (b : Bool) : TrIs K H (.bl b) (.bl b)
  | int (i : Int) : TrIs K H (.int i) (.int i)
  | str (z : Str) (h : z.length ≤ 1000) : TrIs K H (.str z) (.str z)
  | lst {a : Addr} {xs : List V} (h : H a = some (.lst xs)) : TrIs K H (.ref a) .lst
  | dct {a : Addr} {kvs : List (Key × V)} (h : H a = some (.dK kvs)) : TrIs K H (.ref a) .dct
  | tup {a : Addr} {xs : List V} {ts : List Tr} (h : Tp H a xs) (l : xs.length ≤ 40) (r : TrAll K H xs ts) : TrIs K H (.ref a) (.tup ts)
inductive TrAll (K : PySem.W.Frag) (H : Hp) : List V → List Tr → Prop
  | nil : TrAll K H [] []
  | cons {x : V} {t : Tr} {xs : List V} {ts : List Tr} (h : TrIs K H x t) (r : TrAll K H xs ts) : TrAll K H (x :: xs) (t :: ts)
end
mutual
theorem TrIs.same {K : PySem.W.Frag} {H H' : Hp} (s : Same H H') : ∀ {v : V} {t : Tr}, TrIs K H v t → TrIs K H' v t
  | _, _, .non => .non
  | _, _, .bl b => .bl b
  | _, _, .int i => .int i
  | _, _, .str z h => .str z h
  | _, _, .lst h => .lst (s _ _ h)
  | _, _, .dct h => .dct (s _ _ h)
  | _, _, .tup h l r => .tup (h.same s) l (TrAll.same s r)
theorem TrAll.same {K : PySem.W.Frag} {H H' : Hp} (s : Same H H') : ∀ {vs : List V} {ts : List Tr}, TrAll K H vs ts → TrAll K H' vs ts
  | _, _, .nil => .nil
  | _, _, .cons h r => .cons (h.same s) (TrAll.same s r)
end
def Tr.ty : Tr → String
  | .non => "NoneType" | .bl _ => "bool" | .int _ => "int" | .str _ => "str" | .lst => "list" | .dct => "dict" | .tup _ => "tuple"
theorem TrIs.tyx {K : PySem.W.Frag} {H : Hp} {v : V} {t : Tr} (h : TrIs K H v t) : TyX K H v (.type t.ty) := by
  cases h with
  | non => exact .base .non
  | bl b => exact .base (.bl b)
  | int i => exact .base (.int i)
  | str z => exact .base (.str z)
  | lst h => exact .base (.lst h)
  | dct h => exact .base (.dK h)
  | tup h => exact h.elim (fun h => .base (.tup h)) fun ⟨o, h⟩ => .fTuple h
def Tr.isStr : Tr → Bool | .str _ => true | _ => false
def Tr.isTup : Tr → Bool | .tup _ => true | _ => false
def Tr.isInt : Tr → Bool | .int _ => true | .bl _ => true | _ => false
def Tr.isBool : Tr → Bool | .bl _ => true | _ => false
theorem kit_str : ∀ t : Tr, kitB t.ty "str" = some t.isStr
  | .non => (by decide +kernel : kitB "NoneType" "str" = some false)
  | .bl _ => (by decide +kernel : kitB "bool" "str" = some false)
  | .int _ => (by decide +kernel : kitB "int" "str" = some false)
  | .str _ => (by decide +kernel : kitB "str" "str" = some true)
  | .lst => (by decide +kernel : kitB "list" "str" = some false)
  | .dct => (by decide +kernel : kitB "dict" "str" = some false)
  | .tup _ => (by decide +kernel : kitB "tuple" "str" = some false)
theorem kit_tup : ∀ t : Tr, kitB t.ty "tuple" = some t.isTup
  | .non => (by decide +kernel : kitB "NoneType" "tuple" = some false)
  | .bl _ => (by decide +kernel : kitB "bool" "tuple" = some false)
  | .int _ => (by decide +kernel : kitB "int" "tuple" = some false)
  | .str _ => (by decide +kernel : kitB "str" "tuple" = some false)
  | .lst => (by decide +kernel : kitB "list" "tuple" = some false)
  | .dct => (by decide +kernel : kitB "dict" "tuple" = some false)
  | .tup _ => (by decide +kernel : kitB "tuple" "tuple" = some true)
theorem kit_int : ∀ t : Tr, kitB t.ty "int" = some t.isInt
  | .non => (by decide +kernel : kitB "NoneType" "int" = some false)
  | .bl _ => (by decide +kernel : kitB "bool" "int" = some true)
  | .int _ => (by decide +kernel : kitB "int" "int" = some true)
  | .str _ => (by decide +kernel : kitB "str" "int" = some false)
  | .lst => (by decide +kernel : kitB "list" "int" = some false)
  | .dct => (by decide +kernel : kitB "dict" "int" = some false)
  | .tup _ => (by decide +kernel : kitB "tuple" "int" = some false)
theorem kit_bool : ∀ t : Tr, kitB t.ty "bool" = some t.isBool
  | .non => (by decide +kernel : kitB "NoneType" "bool" = some false)
  | .bl _ => (by decide +kernel : kitB "bool" "bool" = some true)
  | .int _ => (by decide +kernel : kitB "int" "bool" = some false)
  | .str _ => (by decide +kernel : kitB "str" "bool" = some false)
  | .lst => (by decide +kernel : kitB "list" "bool" = some false)
  | .dct => (by decide +kernel : kitB "dict" "bool" = some false)
  | .tup _ => (by decide +kernel : kitB "tuple" "bool" = some false)
/-- isinstance, asked -/
theorem isi {K : PySem.W.Frag} {H : Hp} {v : V} {t : Tr} {n : String} {b : Bool} {Q : VK} (h : TrIs K H v t) (e : kitB t.ty n = some b) (q : Q (.bl b) H) : rIsi K [v, .ty n] H Q := ⟨v, .ty n, _, _, b, rfl, .ty n, h.tyx, kit_ty e, q⟩
/-- a name's text -/
def firstS (z : Str) : Bool := match z.cps.toList with
  | [] => false
  | c :: _ => decide (c ∈ lettersS.cps.toList)
def allS (z : Str) : Bool := z.cps.toList.all fun c => decide (c ∈ signsS.cps.toList)
def nameS (z : Str) : Bool := !decide (z = ("view" : Str)) && (decide (1 ≤ z.length) && (decide (z.length ≤ 8) && (firstS z && allS z)))
theorem name_view {z : Str} (h : z = ("view" : Str)) : nameS z = false := by
  subst h
  rfl
theorem name_lo {z : Str} (h : ¬ 1 ≤ z.length) : nameS z = false := by
  unfold nameS
  rw [decide_eq_false h]
  simp
theorem name_hi {z : Str} (h : ¬ z.length ≤ 8) : nameS z = false := by
  unfold nameS
  rw [decide_eq_false h]
  simp
theorem name_rest {z : Str} (h1 : ¬ z = ("view" : Str)) (h2 : 1 ≤ z.length) (h3 : z.length ≤ 8) : nameS z = (firstS z && allS z) := by
  unfold nameS
  rw [decide_eq_false h1, decide_eq_true h2, decide_eq_true h3]
  simp
theorem first_of {z : Str} (h : 1 ≤ z.length) : ∃ c, atI z.cps.toList 0 = some c ∧ firstS z = decide (c ∈ lettersS.cps.toList) := by
  obtain ⟨⟨l⟩⟩ := z
  cases l with
  | nil => exact absurd h (by decide)
  | cons c r => exact ⟨c, atI_nat (j := 0) rfl, rfl⟩
/-- what a sign-by-sign look gives -/
def atB (z : Str) (p : Nat → Bool) (i : Nat) : Bool := match z.cps[i]? with
  | some c => p c
  | none => false
theorem atB_some {z : Str} {p : Nat → Bool} {i c : Nat} (h : z.cps[i]? = some c) : atB z p i = p c := by
  unfold atB
  rw [h]
theorem all_at (z : Str) (p : Nat → Bool) : ((List.range z.cps.size).map (atB z p)).all id = z.cps.toList.all p := by
  have e : (List.range z.cps.size).map (atB z p) = z.cps.toList.map p := by
    apply List.ext_getElem?
    intro i
    rw [List.getElem?_map, List.getElem?_map, show z.cps.toList[i]? = z.cps[i]? from Array.getElem?_toList]
    by_cases hi : i < z.cps.size
    · rw [List.getElem?_range hi, Array.getElem?_eq_getElem hi]
      exact congrArg some (atB_some (Array.getElem?_eq_getElem hi))
    · rw [List.getElem?_eq_none (by simp; omega), Array.getElem?_eq_none (by omega)]
      rfl
  rw [e, List.all_map]
  rfl
def Tr.name : Tr → Bool | .str z => nameS z | _ => false
def Tr.sym : Tr → Bool | .str z => nameS z || decide (z = "@") | _ => false
def Tr.whole : Tr → Bool | .int _ => true | _ => false
def spB (K : PySem.W.Frag) (f : Tr → Bool) : Sp := fun vs H Q _ => ∃ v t, vs = [v] ∧ TrIs K H v t ∧ ∀ H', Same H H' → Q (.bl (f t)) H'
section
variable {P : Program} {w : World} {K : PySem.W.Frag} {mg : Str → Option Value} {base : Heap}
theorem ok_is_integer {f : Addr} {fd : FuncData} (F : Fun K "is_integer" "is_integer" s_is_integer f fd) (T : Ta mg) : FnG P w K mg base 1 f fd ["value"] (spB K Tr.whole) := by
  refine okG F sc_is_integer (fun vs H Q E h => ?_) (fun cdv A outer s H vs Q hr h => ?_)
  · obtain ⟨v, t, rfl, _⟩ := h
    rfl
  · obtain ⟨v, t, rfl, h, k⟩ := h
    refine ⟨_, (pss_one (ps_ret (pe_and (pe_callB call_isi (by rfl) T.b_isinstance (by decide +kernel) (pa_cons (pv 0) (pa_cons (pe_bltn (v := .ty "int") rfl T.b_int (by decide +kernel) rfl) pa_nil))) (pe_one (pe_not (pe_callB call_isi (by rfl) T.b_isinstance (by decide +kernel) (pa_cons (pv 0) (pa_cons (pe_bltn (v := .ty "bool") rfl T.b_bool (by decide +kernel) rfl) pa_nil)))))))), ?_⟩
    refine ⟨_, rfl, v, _, _, _, _, rfl, .ty _, h.tyx, kit_ty (kit_int t), _, rfl, ?_⟩
    cases t with
    | int i => exact iteT ⟨_, rfl, v, _, _, _, _, rfl, .ty _, h.tyx, kit_ty (kit_bool _), _, rfl, k H (Same.refl H)⟩
    | bl b => exact iteT ⟨_, rfl, v, _, _, _, _, rfl, .ty _, h.tyx, kit_ty (kit_bool _), _, rfl, k H (Same.refl H)⟩
    | _ => exact iteF (k H (Same.refl H))
theorem ok_is_name {f : Addr} {fd : FuncData} (F : Fun K "is_name" "is_name" s_is_name f fd) (T : Ta mg) : FnG P w K mg base 1 f fd ["value"] (spB K Tr.name) := by
  refine okG F sc_is_name (fun vs H Q E h => ?_) (fun cdv A outer s H vs Q hr h => ?_)
  · obtain ⟨v, t, rfl, _⟩ := h
    rfl
  · obtain ⟨v, t, rfl, h, k⟩ := h
    refine ⟨_, (pss_cons (ps_if (PW.pt (pw_or (pt_not (pt_val (pe_callB call_isi (by rfl) T.b_isinstance (by decide +kernel) (pa_cons (pv 0) (pa_cons (pe_bltn (v := .ty "str") rfl T.b_str (by decide +kernel) rfl) pa_nil))))) (pw_or1 (pt_cmpR op_eq (pv 0) pe_str (nomark _)))))
    (pss_one (ps_ret pe_bl))
    pss_nil)
  (pss_cons (ps_if (pt_not (pt_chain op_le op_le pe_int (pe_callB call_len_str (by rfl) T.b_len (by decide +kernel) (pa_cons (pv 0) pa_nil)) (pe_gl (v := .int 8) rfl T.g__LONGEST_NAME)))
    (pss_one (ps_ret pe_bl))
    pss_nil)
  (pss_one (ps_ret (pe_and (pe_cmpR op_in_sign (pe_ix ix_str (pv 0) pe_int (fun _ _ => rfl)) (pe_gl (v := .str lettersS) rfl T.g__LETTERS) rfl) (pe_one (pe_callB (cr_all (by rfl)) (by rfl) T.b_all (by decide +kernel) (pa_cons (pe_lc (own := [("sign", 1)]) (g := gName 1) (tt := tYes) rfl sc_is_name.nd (pi_str (pv 0)) (blkOk_by (own := [("sign", 1)]) (N := n_is_name) (sc := defScope s_is_name) (by decide +kernel)) (fun _ _ _ _ _ => pg_name (i := 1) sc_is_name.nd rfl (Or.inl rfl)) (fun _ _ _ _ _ => pts_nil) (fun _ _ _ _ _ => (pe_cmpR op_in_sign (pv 1) (pe_gl (v := .str signsS) rfl T.g__SIGNS) rfl))) pa_nil)))))))), ?_⟩
    refine ⟨_, rfl, v, _, _, _, _, rfl, .ty _, h.tyx, kit_ty (kit_str t), _, rfl, ?_⟩
    cases h with
    | str z hz =>
      have kk : ∀ b, nameS z = b → Q (.bl b) H := fun b e => e ▸ k H (Same.refl H)
      refine iteF ⟨_, rfl, rfl, _, rfl, ?_⟩
      refine ite2 (fun hv => kk _ (name_view (by simpa using hv))) fun hv => ?_
      have hv : ¬ z = ("view" : Str) := by simpa using hv
      refine ⟨_, rfl, z, rfl, sz1000 hz, _, _, rfl, rfl, _, rfl, ite2 (fun h1 => ⟨_, _, rfl, rfl, _, rfl, ?_⟩) fun h1 => ⟨_, rfl, iteT (kk _ (name_lo (by simp at h1; omega)))⟩⟩
      refine ite2 (fun h2 => kk _ (name_hi (by simp at h2; omega))) fun h2 => ?_
      have h1 : 1 ≤ z.length := by simp at h1; omega
      have h2 : z.length ≤ 8 := by simp at h2; omega
      obtain ⟨c, hc, hf⟩ := first_of h1
      have kr := name_rest hv h1 h2
      rw [hf] at kr
      refine ⟨_, rfl, z, 0, c, rfl, rfl, sz1000 hz, hc, c, _, rfl, rfl, _, rfl, ite2 (fun h3 => ?_) fun h3 => kk _ (by rw [kr, Bool.eq_false_iff.mpr h3]; rfl)⟩
      rw [h3] at kr
      refine ⟨_, rfl, z, rfl, fun D hD => lc_fn walk_str (fun i => .bl (atB z (fun c => decide (c ∈ signsS.cps.toList)) i)) (by have := hz; exact hz) hD (fun _ _ => True.intro) (fun i x H2 H3 Q' hi s2 y kq => ?_) fun H2 s2 d => ?_⟩
      · obtain ⟨rfl, c, hc, rfl⟩ := y
        refine ⟨rfl, _, rfl, c, _, rfl, rfl, ?_⟩
        have := kq _ (Same.refl _)
        rw [atB_some hc] at this
        exact this
      · refine ⟨D, _, rfl, SqL.of (d.trans (congrArg (fun l => some (HO.lst l)) (List.map_map (f := atB z _) (g := V.bl)).symm)), ?_⟩
        rw [all_at]
        have := k H2 s2
        rw [show (Tr.str z).name = nameS z from rfl, kr] at this
        exact this
    | _ => exact iteT (k H (Same.refl H))
theorem ok_is_symbol {f : Addr} {fd : FuncData} (F : Fun K "is_symbol" "is_symbol" s_is_symbol f fd) (T : Ta mg) (c_is_name : Cal P w K mg base 1 "is_name" ["value"] (spB K Tr.name)) : FnG P w K mg base 2 f fd ["value"] (spB K Tr.sym) := by
  refine okG F sc_is_symbol (fun vs H Q E h => ?_) (fun cdv A outer s H vs Q hr h => ?_)
  · obtain ⟨v, t, rfl, _⟩ := h
    rfl
  · obtain ⟨v, t, rfl, h, k⟩ := h
    refine ⟨_, (pss_one (ps_ret (pe_or (pe_c c_is_name hr (by decide) rfl (pa_cons (pv 0) pa_nil)) (pe_one (pe_and (pe_callB call_isi (by rfl) T.b_isinstance (by decide +kernel) (pa_cons (pv 0) (pa_cons (pe_bltn (v := .ty "str") rfl T.b_str (by decide +kernel) rfl) pa_nil))) (pe_one (pe_cmpR op_eq (pv 0) (pe_gl (v := .str atS) rfl T.g_MIDDLE) (nomark _)))))))), ?_⟩
    refine ⟨_, rfl, v, t, rfl, h, fun H2 s2 => ⟨_, rfl, ite2 (fun hn => ?_) fun hn => ?_⟩⟩
    · have e : t.sym = true := by
        cases t with
        | str z => exact (Bool.or_eq_true _ _).mpr (.inl hn)
        | _ => exact absurd (show false = true from hn) (by decide)
      have := k H2 s2
      rw [e] at this
      exact this
    · refine ⟨_, rfl, v, _, _, _, _, rfl, .ty _, (h.same s2).tyx, kit_ty (kit_str t), _, rfl, ?_⟩
      cases h with
      | str z hz =>
        refine iteT ⟨_, rfl, rfl, ?_⟩
        have := k H2 s2
        rw [show (Tr.str z).sym = decide (V.str z = V.str "@") by
          show (nameS z || decide (z = "@")) = _
          rw [show nameS z = false from Bool.eq_false_iff.mpr hn]
          simp] at this
        exact this
      | _ => exact iteF (k H2 s2)
end
end Lw

/-! ## FkE -/
set_option maxHeartbeats 4000000
/-! texts that rise -/
namespace Lw
open PySem PySem.Spec PyProof.Rows L2
def lt' (a b : Str) : Prop := a.cps.toList < b.cps.toList
instance (a b : Str) : Decidable (lt' a b) := inferInstanceAs (Decidable (a.cps.toList < b.cps.toList))
theorem str_ext {a b : Str} (h : a.cps.toList = b.cps.toList) : a = b := by
  obtain ⟨⟨l⟩⟩ := a
  obtain ⟨⟨m⟩⟩ := b
  cases (show l = m from h)
  rfl
theorem lt'_trans {a b c : Str} (h : lt' a b) (k : lt' b c) : lt' a c := List.lt_trans h k
theorem lt'_irr (a : Str) : ¬ lt' a a := List.lt_irrefl _
theorem lt'_tri {a b : Str} (h : ¬ lt' a b) (k : ¬ lt' b a) : a = b := str_ext (List.le_antisymm (as := a.cps.toList) (bs := b.cps.toList) (List.not_lt.mp k) (List.not_lt.mp h))
theorem asc_head {x : Str} {l : List Str} (h : (x :: l).Pairwise lt') : ∀ y ∈ l, lt' x y := (List.pairwise_cons.mp h).1
theorem asc_unique : ∀ {l m : List Str}, l.Pairwise lt' → m.Pairwise lt' → (∀ y, y ∈ l ↔ y ∈ m) → l = m
  | [], [], _, _, _ => rfl
  | [], y :: m, _, _, h => nomatch (h y).mpr List.mem_cons_self
  | x :: l, [], _, _, h => nomatch (h x).mp List.mem_cons_self
  | x :: l, y :: m, hl, hm, h => by
    have e : x = y := by
      rcases List.mem_cons.mp ((h x).mp List.mem_cons_self) with e | q
      · exact e
      · rcases List.mem_cons.mp ((h y).mpr List.mem_cons_self) with e | r
        · exact e.symm
        · exact absurd (lt'_trans (asc_head hm x q) (asc_head hl y r)) (lt'_irr y)
    subst e
    have nl : x ∉ l := fun q => lt'_irr x (asc_head hl x q)
    have nm : x ∉ m := fun q => lt'_irr x (asc_head hm x q)
    rw [asc_unique (List.pairwise_cons.mp hl).2 (List.pairwise_cons.mp hm).2 fun y => ?_]
    constructor
    · intro q
      rcases List.mem_cons.mp ((h y).mp (List.mem_cons_of_mem _ q)) with e | r
      · exact absurd (e ▸ q) nl
      · exact r
    · intro q
      rcases List.mem_cons.mp ((h y).mpr (List.mem_cons_of_mem _ q)) with e | r
      · exact absurd (e ▸ q) nm
      · exact r
theorem rising_pair : ∀ (r : List Str) (p : Str), risingS p r = true → (p :: r).Pairwise fun a b => ¬ lt' b a
  | [], p, _ => List.pairwise_singleton _ _
  | x :: r, p, h => by
    have h' : (!ltCps x.cps.toList p.cps.toList && risingS x r) = true := h
    obtain ⟨h1, h2⟩ := Bool.and_eq_true_iff.mp h'
    rw [ltCps_eq] at h1
    have h1 : ¬ lt' x p := fun q => by
      rw [decide_eq_true (show x.cps.toList < p.cps.toList from q)] at h1
      cases h1
    have ih := rising_pair r x h2
    refine List.pairwise_cons.mpr ⟨fun y hy => ?_, ih⟩
    rcases List.mem_cons.mp hy with rfl | hy
    · exact h1
    · have h3 := (List.pairwise_cons.mp ih).1 y hy
      intro q
      by_cases c : lt' x y
      · exact h1 (lt'_trans c q)
      · have e := lt'_tri c h3
        subst e
        exact h1 q
theorem sorted_asc {l : List Str} (h : sortedS l = true) (d : l.Nodup) : l.Pairwise lt' := by
  have p : l.Pairwise fun a b => ¬ lt' b a := by
    cases l with
    | nil => exact .nil
    | cons x r => exact rising_pair r x h
  exact (List.Pairwise.and p d).imp fun {a b} ⟨h1, h2⟩ => by
    by_cases c : lt' a b
    · exact c
    · exact absurd (lt'_tri c h1) h2
/-- rises, strictly -/
def ascB : List Str → Bool
  | [] => true
  | [_] => true
  | x :: y :: r => decide (x.cps.toList < y.cps.toList) && ascB (y :: r)
theorem ascB_pair : ∀ {l : List Str}, ascB l = true → l.Pairwise lt'
  | [], _ => .nil
  | [x], _ => List.pairwise_singleton _ _
  | x :: y :: r, h => by
    obtain ⟨h1, h2⟩ := Bool.and_eq_true_iff.mp (show (decide (x.cps.toList < y.cps.toList) && ascB (y :: r)) = true from h)
    have ih := ascB_pair h2
    refine List.pairwise_cons.mpr ⟨fun z hz => ?_, ih⟩
    rcases List.mem_cons.mp hz with rfl | hz
    · exact of_decide_eq_true h1
    · exact lt'_trans (of_decide_eq_true h1) (asc_head ih z hz)
theorem pair_ascB : ∀ {l : List Str}, l.Pairwise lt' → ascB l = true
  | [], _ => rfl
  | [x], _ => rfl
  | x :: y :: r, h => by
    show (decide (x.cps.toList < y.cps.toList) && ascB (y :: r)) = true
    rw [pair_ascB (List.pairwise_cons.mp h).2, decide_eq_true (show x.cps.toList < y.cps.toList from asc_head h y List.mem_cons_self)]
    rfl
/-- a list is what sorted(set(it)) gives just if it rises -/
theorem asc_iff {ks zs xs : List Str} (hz : zs.Perm xs) (hx : xs.Nodup) (hs : sortedS zs = true) (hm : ∀ y, y ∈ xs ↔ y ∈ ks) : decide (ks = zs) = ascB ks := by
  have az := sorted_asc hs (hz.nodup_iff.mpr hx)
  by_cases c : ks = zs
  · rw [decide_eq_true c]
    subst c
    exact (pair_ascB az).symm
  · rw [decide_eq_false c]
    cases e : ascB ks with
    | false => rfl
    | true => exact absurd (asc_unique (ascB_pair e) az fun y => (hm y).symm.trans hz.mem_iff.symm) c
theorem eqvAll_strs : ∀ ks zs : List Str, PyData.eqvAll (ks.map PyData.str) (zs.map PyData.str) = decide (ks = zs)
  | [], [] => rfl
  | [], _ :: _ => rfl
  | _ :: _, [] => rfl
  | k :: ks, z :: zs => by
    show ((k == z) && PyData.eqvAll (ks.map PyData.str) (zs.map PyData.str)) = _
    rw [eqvAll_strs ks zs]
    by_cases e : k = z
    · subst e
      simp
    · simp [e]
theorem eqv_strs (ks zs : List Str) : PyData.eqv (.list (ks.map .str)) (.list (zs.map .str)) = decide (ks = zs) := eqvAll_strs ks zs
theorem dp_strs {K : PySem.W.Frag} {H : Hp} : ∀ ks : List Str, DpAll K H (ks.map V.str) (ks.map PyData.str)
  | [] => .nil
  | k :: ks => .cons (.str k) (dp_strs ks)
theorem lay_strs : ∀ ks : List Str, (∀ k ∈ ks, PyData.strOk k = true) → PyData.canLayAll0 (ks.map PyData.str) = true
  | [], _ => rfl
  | k :: ks, h => by
    show (PyData.canLay0 (.str k) && PyData.canLayAll0 (ks.map PyData.str)) = true
    rw [lay_strs ks fun z hz => h z (List.mem_cons_of_mem _ hz)]
    show (PyData.strOk k && true) = true
    rw [h k List.mem_cons_self]
    rfl
theorem depth_strs : ∀ ks : List Str, PyData.depthAll (ks.map PyData.str) = 0
  | [] => rfl
  | k :: ks => by
    show max 0 (PyData.depthAll (ks.map PyData.str)) = 0
    rw [depth_strs ks]
    rfl
theorem shaped_strs (ks : List Str) (h : ∀ k ∈ ks, PyData.strOk k = true) : SeqAt.shaped (.list (ks.map PyData.str)) = true := by
  show (PyData.canLayAll0 (ks.map PyData.str) && decide (PyData.depthAll (ks.map PyData.str) + 1 ≤ 64)) = true
  rw [lay_strs ks h, depth_strs]
  rfl
theorem name_ok {z : Str} (h : nameS z = true) : PyData.strOk z = true ∧ z.length ≤ 8 ∧ 1 ≤ z.length := by
  unfold nameS at h
  simp only [Bool.and_eq_true, decide_eq_true_eq] at h
  obtain ⟨_, h1, h2, _, h3⟩ := h
  refine ⟨?_, h2, h1⟩
  show z.cps.all (· < 0x110000) = true
  rw [← Array.all_toList]
  refine List.all_eq_true.mpr fun c hc => ?_
  have e := of_decide_eq_true (List.all_eq_true.mp h3 c hc)
  have f : ∀ c ∈ signsS.cps.toList, decide (c < 0x110000) = true := by decide +kernel
  exact f c e
theorem sym_ok {z : Str} (h : (Tr.str z).sym = true) : PyData.strOk z = true ∧ z.length ≤ 8 ∧ 1 ≤ z.length := by
  rcases (Bool.or_eq_true _ _).mp (show (nameS z || decide (z = "@")) = true from h) with h | h
  · exact name_ok h
  · have e := of_decide_eq_true h
    subst e
    decide +kernel
def Tr.pos : Tr → Bool
  | .int i => decide (i ≥ 0)
  | _ => false
def Tr.worth : Tr → Bool
  | .tup [s, w] => s.sym && (w.whole && w.pos)
  | _ => false
def Tr.key : Tr → Str
  | .tup [.str z, _] => z
  | _ => Str.empty
def Tr.vals : Tr → Bool
  | .tup ts => ts.all Tr.worth && ascB (ts.map Tr.key)
  | _ => false
theorem TrAll.len {K : PySem.W.Frag} {H : Hp} : ∀ {xs : List V} {ts : List Tr}, TrAll K H xs ts → xs.length = ts.length
  | _, _, .nil => rfl
  | _, _, .cons _ r => congrArg Nat.succ (TrAll.len r)
theorem TrAll.get {K : PySem.W.Frag} {H : Hp} : ∀ {xs : List V} {ts : List Tr}, TrAll K H xs ts → ∀ {i : Nat} {x : V}, xs[i]? = some x → ∃ t, ts[i]? = some t ∧ TrIs K H x t
  | _, _, .nil, i, x, e => by simp at e
  | _, _, .cons h r, 0, x, e => by
    obtain rfl := Option.some.inj e
    exact ⟨_, rfl, h⟩
  | _, _, .cons h r, i + 1, x, e => TrAll.get r (i := i) (by simpa using e)
theorem worth_at {K : PySem.W.Frag} {H : Hp} {v : V} {t : Tr} (h : TrIs K H v t) (w : t.worth = true) : ∃ a z u, v = .ref a ∧ Tp H a [.str z, u] ∧ t.key = z ∧ PyData.strOk z = true ∧ z.length ≤ 8 ∧ 1 ≤ z.length := by
  cases h with
  | @tup a xs ts h l r =>
    cases r with
    | nil => exact absurd (show false = true from w) Bool.false_ne_true
    | @cons x s xs ts h1 r =>
      cases r with
      | nil => exact absurd (show false = true from w) Bool.false_ne_true
      | @cons y u xs ts h2 r =>
        cases r with
        | cons _ _ => exact absurd (show false = true from w) Bool.false_ne_true
        | nil =>
          have ws : s.sym = true := (Bool.and_eq_true_iff.mp (show (s.sym && (u.whole && u.pos)) = true from w)).1
          cases h1 with
          | str z hz => exact ⟨a, z, y, rfl, h, rfl, sym_ok ws⟩
          | _ => exact absurd (show false = true from ws) Bool.false_ne_true
  | _ => exact absurd (show false = true from w) Bool.false_ne_true
end Lw

/-! ## Fm1 -/
set_option maxHeartbeats 2000000
/-! terms and their texts -/
namespace Fm
open PySem PySem.Spec PyProof.Rows L2 TL
abbrev Tm := List (Str × Int)
def absI (f : Int) : Int := if f < 0 then -f else f
theorem absI_nonneg (f : Int) : 0 ≤ absI f := by unfold absI; split <;> omega
def cf : Tm → Str → Int
  | [], _ => 0
  | (t, f) :: r, s => if t = s then f else cf r s
/-- symbols ascend -/
def Asc : Tm → Prop
  | [] => True
  | p :: r => (∀ q ∈ r, p.1.cps.toList < q.1.cps.toList) ∧ Asc r
theorem cf_none : ∀ {ts : Tm} {s : Str}, (∀ p ∈ ts, p.1 ≠ s) → cf ts s = 0
  | [], _, _ => rfl
  | (t, f) :: r, s, h => by
    show (if t = s then f else cf r s) = 0
    rw [if_neg (h _ List.mem_cons_self), cf_none fun p hp => h p (List.mem_cons_of_mem _ hp)]
theorem lt_irr (l : List Nat) : ¬ l < l := List.lt_irrefl l
theorem lt_tr {a b c : List Nat} (h : a < b) (k : b < c) : a < c := List.lt_trans h k
theorem cf_mem : ∀ {ts : Tm} {s : Str} {f : Int}, Asc ts → (s, f) ∈ ts → cf ts s = f
  | (t, g) :: r, s, f, h, m => by
    show (if t = s then g else cf r s) = f
    rcases List.mem_cons.mp m with e | m
    · cases e
      rw [if_pos rfl]
    · rw [if_neg (fun e => lt_irr _ (e ▸ h.1 _ m)), cf_mem h.2 m]
/-- normal: symbols ascend, no factor 0 -/
structure Nm (ts : Tm) : Prop where
  asc : Asc ts
  nz : ∀ p ∈ ts, p.2 ≠ 0
theorem Nm.tail {p : Str × Int} {r : Tm} (h : Nm (p :: r)) : Nm r := ⟨h.asc.2, fun q m => h.nz q (List.mem_cons_of_mem _ m)⟩
theorem str_ext {a b : Str} (h : a.cps.toList = b.cps.toList) : a = b := by
  obtain ⟨⟨x⟩⟩ := a
  obtain ⟨⟨y⟩⟩ := b
  have h : x = y := h
  rw [h]
theorem list_tri (a b : List Nat) : a < b ∨ a = b ∨ b < a := by
  by_cases h : a < b
  · exact .inl h
  · by_cases k : b < a
    · exact .inr (.inr k)
    · exact .inr (.inl (List.le_antisymm (List.not_lt.mp k) (List.not_lt.mp h)))
/-- normal terms are known by their factors -/
theorem nm_ext : ∀ {ts us : Tm}, Nm ts → Nm us → (∀ s, cf ts s = cf us s) → ts = us
  | [], [], _, _, _ => rfl
  | [], (u, g) :: r, _, k, h => absurd (h u) (by
    show ¬ (0 : Int) = if u = u then g else cf r u
    rw [if_pos rfl]
    exact fun e => k.nz _ List.mem_cons_self e.symm)
  | (t, f) :: r, [], k, _, h => absurd (h t) (by
    show ¬ (if t = t then f else cf r t) = 0
    rw [if_pos rfl]
    exact k.nz _ List.mem_cons_self)
  | (t, f) :: r, (u, g) :: q, hk, hl, h => by
    have out : ∀ {a b : Str × Int} {w : Tm}, Nm (b :: w) → a.1.cps.toList < b.1.cps.toList → cf (b :: w) a.1 = 0 := fun {a b w} n l => cf_none fun p hp => by
      rcases List.mem_cons.mp hp with e | m
      · subst e
        exact fun e => lt_irr _ (e ▸ l)
      · exact fun e => lt_irr _ (lt_tr l (e ▸ n.asc.1 p m))
    rcases list_tri t.cps.toList u.cps.toList with l | e | l
    · have z := h t
      rw [show cf ((t, f) :: r) t = f from if_pos rfl, out (a := (t, f)) hl l] at z
      exact absurd z (hk.nz _ List.mem_cons_self)
    · have e := str_ext e
      subst e
      have z := h t
      rw [show cf ((t, f) :: r) t = f from if_pos rfl, show cf ((t, g) :: q) t = g from if_pos rfl] at z
      subst z
      rw [nm_ext hk.tail hl.tail fun s => ?_]
      by_cases e : t = s
      · subst e
        rw [cf_none fun p hp e => lt_irr _ (e ▸ hk.asc.1 p hp), cf_none fun p hp e => lt_irr _ (e ▸ hl.asc.1 p hp)]
      · have z := h s
        rwa [show cf ((t, f) :: r) s = cf r s from if_neg e, show cf ((t, f) :: q) s = cf q s from if_neg e] at z
    · have z := h u
      rw [show cf ((u, g) :: q) u = g from if_pos rfl, out (a := (u, g)) hk l] at z
      exact absurd z.symm (hl.nz _ List.mem_cons_self)
/-! ### texts -/
def numS (f : Int) : Str := Str.ofString (toString (absI f))
def starS : Str := "*"
/-- a term without its sign -/
def wordS (s : Str) (f : Int) : Str := if absI f = 1 then s else numS f ++ starS ++ s
def sgn1 (f : Int) : Str := if f < 0 then "-" else ""
def sgnM (f : Int) : Str := if f < 0 then " - " else " + "
def lineS : Str → Tm → Str
  | l, [] => l
  | l, (s, f) :: r => lineS (if l = "" then sgn1 f ++ wordS s f else l ++ sgnM f ++ wordS s f) r
def textS (ts : Tm) : Str := if lineS "" ts = "" then "0" else lineS "" ts
/-- the pieces, behind those that are there -/
def pcsS : List Str → Tm → List Str
  | l, [] => l
  | l, (s, f) :: r => pcsS (l ++ (if l = [] then (if f < 0 then ([("-" : Str)] : List Str) else []) else [sgnM f]) ++ [wordS s f]) r
def shownS (ts : Tm) : Str := if ts = [] then "0" else Txt.join "" (pcsS [] ts)
theorem tl_app (a b : Str) : tl (a ++ b) = tl a ++ tl b := tl_append a b
theorem wordS_ne {s : Str} (h : tl s ≠ []) (f : Int) : tl (wordS s f) ≠ [] := by
  unfold wordS
  split
  · exact h
  · rw [tl_app]
    exact fun e => h (List.append_eq_nil_iff.mp e).2
theorem eq_nil_of {a : Str} (h : tl a = []) : a = "" := str_ext h
theorem joinE (a : Str) (zs : List Str) : tl (Txt.join "" zs) = (zs.map tl).flatten := by
  rw [show Txt.join "" zs = Str.join "" zs from StrLaws.glued_eq_join _ _]
  induction zs with
  | nil => rfl
  | cons x r ih =>
    cases r with
    | nil =>
      show tl x = _
      simp
    | cons y q =>
      show tl (x ++ ("" : Str) ++ Str.join "" (y :: q)) = _
      rw [tl_app, tl_app, ih]
      simp [show tl ("" : Str) = [] from rfl]
def Sy (ts : Tm) : Prop := ∀ p ∈ ts, tl p.1 ≠ []
theorem line_pcs : ∀ (ts : Tm) (l : Str) (ps : List Str), Sy ts → tl l = (ps.map tl).flatten → (l = "" ↔ ps = []) → tl (lineS l ts) = ((pcsS ps ts).map tl).flatten
  | [], l, ps, _, h, _ => h
  | (s, f) :: r, l, ps, hs, h, k => by
    have hw := wordS_ne (hs _ List.mem_cons_self) f
    refine line_pcs r _ _ (fun p m => hs p (List.mem_cons_of_mem _ m)) ?_ ⟨fun e => ?_, fun e => absurd e (by simp)⟩
    · by_cases e : l = ""
      · have e2 := k.mp e
        subst e e2
        rw [if_pos rfl, if_pos rfl, tl_app]
        unfold sgn1
        by_cases g : f < 0 <;> simp [g, show tl ("" : Str) = [] from rfl]
      · have e2 : ps ≠ [] := fun q => e (k.mpr q)
        rw [if_neg e, if_neg e2, tl_app, tl_app, h]
        simp
    · exfalso
      split at e
      · have : tl (sgn1 f ++ wordS s f) = [] := by rw [e]; rfl
        rw [tl_app] at this
        exact hw (List.append_eq_nil_iff.mp this).2
      · have : tl (l ++ sgnM f ++ wordS s f) = [] := by rw [e]; rfl
        rw [tl_app] at this
        exact hw (List.append_eq_nil_iff.mp this).2
theorem line_ne : ∀ (ts : Tm) (l : Str), Sy ts → (l ≠ "" ∨ ts ≠ []) → lineS l ts ≠ ""
  | [], l, _, h => h.elim id fun h => absurd rfl h
  | (s, f) :: r, l, hs, _ => line_ne r _ (fun p m => hs p (List.mem_cons_of_mem _ m)) (.inl fun e => by
    have hw := wordS_ne (hs _ List.mem_cons_self) f
    split at e
    · have : tl (sgn1 f ++ wordS s f) = [] := by rw [e]; rfl
      rw [tl_app] at this
      exact hw (List.append_eq_nil_iff.mp this).2
    · have : tl (l ++ sgnM f ++ wordS s f) = [] := by rw [e]; rfl
      rw [tl_app] at this
      exact hw (List.append_eq_nil_iff.mp this).2)
/-- what is shown is the law's text -/
theorem shown_text {ts : Tm} (h : Sy ts) : shownS ts = textS ts := by
  unfold shownS textS
  by_cases e : ts = []
  · subst e
    rfl
  · rw [if_neg e, if_neg (line_ne ts "" h (.inr e))]
    refine str_ext ?_
    have a := line_pcs ts "" [] h rfl (by simp)
    show tl (Txt.join "" (pcsS [] ts)) = tl (lineS "" ts)
    rw [joinE "", a]
end Fm

/-! ## Fm2 -/
set_option maxHeartbeats 2000000
/-! texts of terms, read -/
namespace Fm
open PySem PySem.Spec PyProof.Rows L2 TL
open PySem.Builtin.Str (lastOccurrence strSub)
/-! ### rpartition at one sign -/
theorem at_one {x y : Str} {c i : Nat} (hy : tl y = [c]) (h : StrLaws.At x y x.length i) : (tl x)[i]? = some c := by
  have e := (at_iff (x := x) (y := y) (by rw [hy]; simp) i).mp h
  rw [hy] at e
  cases hd : (tl x).drop i with
  | nil =>
    rw [hd] at e
    rw [pre_nil (by simp)] at e
    cases e
  | cons d r =>
    rw [hd] at e
    have e : ([d] == [c]) = true := e
    have : d = c := by simpa using e
    subst this
    rw [← List.head?_drop, hd]
    rfl
theorem one_at {x y : Str} {c i : Nat} (hy : tl y = [c]) (h : (tl x)[i]? = some c) : StrLaws.At x y x.length i := by
  refine (at_iff (x := x) (y := y) (by rw [hy]; simp) i).mpr ?_
  rw [hy]
  have hd : ((tl x).drop i).head? = some c := by rw [List.head?_drop]; exact h
  cases e : (tl x).drop i with
  | nil => rw [e] at hd; cases hd
  | cons d r =>
    rw [e] at hd
    cases hd
    show ([c] == [c]) = true
    simp
theorem rpart_none {x y : Str} {c : Nat} (hy : tl y = [c]) (h : c ∉ tl x) : Txt.rpartition x y = (Str.empty, Str.empty, x) := by
  unfold Txt.rpartition
  rcases StrLaws.last_spec x y with ⟨h0, _⟩ | ⟨i, h0, hi, _⟩
  · rw [h0]
  · exact absurd (List.mem_of_getElem? (at_one hy hi)) h
theorem rpart_app {a b y : Str} {c : Nat} (hy : tl y = [c]) (h : c ∉ tl b) : Txt.rpartition (a ++ y ++ b) y = (a, y, b) := by
  have ex : tl (a ++ y ++ b) = tl a ++ (c :: tl b) := by rw [tl_append, tl_append, hy, List.append_assoc] <;> rfl
  have hA : StrLaws.At (a ++ y ++ b) y (a ++ y ++ b).length (tl a).length := one_at hy (by rw [ex, List.getElem?_append_right (Nat.le_refl _), Nat.sub_self] <;> rfl)
  have ly : y.length = 1 := by rw [len_tl, hy] <;> rfl
  unfold Txt.rpartition
  rcases StrLaws.last_spec (a ++ y ++ b) y with ⟨_, hn⟩ | ⟨i, h0, hi, hn⟩
  · exact absurd hA (hn _)
  · rw [h0]
    have e : i = (tl a).length := by
      rcases Nat.lt_trichotomy i (tl a).length with l | e | l
      · exact absurd hA (hn _ l)
      · exact e
      · have q := at_one hy hi
        rw [ex, List.getElem?_append_right (by omega)] at q
        obtain ⟨k, hk⟩ : ∃ k, i - (tl a).length = k + 1 := ⟨i - (tl a).length - 1, by omega⟩
        rw [hk, List.getElem?_cons_succ] at q
        exact absurd (List.mem_of_getElem? q) h
    subst e
    have e1 : strSub (a ++ y ++ b) 0 (tl a).length = a := ext_tl (by
      rw [tl_strSub, ex, List.drop_zero, Nat.sub_zero, List.take_left])
    have e2 : strSub (a ++ y ++ b) ((tl a).length + y.length) (a ++ y ++ b).length = b := ext_tl (by
      rw [tl_strSub_end, ex, ly, ← List.drop_drop, List.drop_left] <;> rfl)
    show (strSub (a ++ y ++ b) 0 (tl a).length, y, strSub (a ++ y ++ b) ((tl a).length + y.length) (a ++ y ++ b).length) = _
    rw [e1, e2]
/-! ### the words -/
def wrds : Tm → List Str
  | [] => []
  | (s, f) :: r => (if f < 0 then ("-" : Str) else ("+" : Str)) :: wordS s f :: wrds r
def words : Tm → List Str
  | [] => []
  | (s, f) :: r => (sgn1 f ++ wordS s f) :: wrds r
theorem joinB (w : Str) : ∀ xs : List Str, tl (Str.join " " (w :: xs)) = tl w ++ (xs.map fun x => 32 :: tl x).flatten
  | [] => by
    show tl w = _
    simp
  | x :: r => by
    show tl (w ++ (" " : Str) ++ Str.join " " (x :: r)) = _
    rw [tl_append, tl_append, joinB x r]
    simp [show tl (" " : Str) = [32] from rfl]
theorem line_wrds : ∀ (ts : Tm) (l : Str), Sy ts → l ≠ "" → tl (lineS l ts) = tl l ++ ((wrds ts).map fun x => 32 :: tl x).flatten
  | [], l, _, _ => by
    show tl l = _
    simp [wrds]
  | (s, f) :: r, l, hs, hl => by
    have hw := wordS_ne (hs _ List.mem_cons_self) f
    show tl (lineS (if l = "" then sgn1 f ++ wordS s f else l ++ sgnM f ++ wordS s f) r) = _
    rw [if_neg hl, line_wrds r _ (fun p m => hs p (List.mem_cons_of_mem _ m)) (fun e => hw (by
      have : tl (l ++ sgnM f ++ wordS s f) = [] := by rw [e]; rfl
      rw [tl_append] at this
      exact (List.append_eq_nil_iff.mp this).2)), tl_append, tl_append]
    have e : tl (sgnM f) = 32 :: tl (if f < 0 then ("-" : Str) else ("+" : Str)) ++ [32] := by
      unfold sgnM
      split <;> rfl
    rw [e]
    simp [wrds]
theorem text_words {p : Str × Int} {r : Tm} (hs : Sy (p :: r)) : textS (p :: r) = Txt.join " " (words (p :: r)) := by
  obtain ⟨s, f⟩ := p
  have hw := wordS_ne (hs _ List.mem_cons_self) f
  unfold textS
  rw [if_neg (line_ne _ "" hs (.inr (by simp)))]
  refine str_ext ?_
  show tl (lineS (if ("" : Str) = "" then sgn1 f ++ wordS s f else _) r) = tl (Txt.join " " (words ((s, f) :: r)))
  rw [if_pos rfl, line_wrds r _ (fun p m => hs p (List.mem_cons_of_mem _ m)) (fun e => hw (by
    have : tl (sgn1 f ++ wordS s f) = [] := by rw [e]; rfl
    rw [tl_append] at this
    exact (List.append_eq_nil_iff.mp this).2)), show Txt.join " " (words ((s, f) :: r)) = Str.join " " (words ((s, f) :: r)) from StrLaws.glued_eq_join _ _]
  show _ = tl (Str.join " " ((sgn1 f ++ wordS s f) :: wrds r))
  rw [joinB]
/-- no blank, no star, no minus within a symbol -/
structure SyOk (s : Str) : Prop where
  ne : tl s ≠ []
  b : 32 ∉ tl s
  st : 42 ∉ tl s
  mi : ∀ c, (tl s).head? = some c → c ≠ 45
  no0 : s ≠ "0"
  dg : ∀ c, (tl s).head? = some c → c < 48 ∨ 57 < c
theorem num_free (k : Nat) (hk : k ≠ 45 ∧ (k < 48 ∨ 57 < k)) (f : Int) : k ∉ tl (numS f) := int_text_free' k hk (absI f)
theorem word_blank {s : Str} (h : SyOk s) (f : Int) : 32 ∉ tl (wordS s f) := by
  unfold wordS
  split
  · exact h.b
  · rw [tl_append, tl_append]
    intro m
    rcases List.mem_append.mp m with m | m
    · rcases List.mem_append.mp m with m | m
      · exact num_free 32 ⟨by decide, by decide⟩ f m
      · exact absurd m (by decide)
    · exact h.b m
theorem wrds_blank : ∀ {ts : Tm}, (∀ p ∈ ts, SyOk p.1) → ∀ x ∈ wrds ts, 32 ∉ tl x
  | [], _, x, m => absurd m (by simp [wrds])
  | (s, f) :: r, h, x, m => by
    rcases List.mem_cons.mp m with rfl | m
    · split <;> decide
    · rcases List.mem_cons.mp m with rfl | m
      · exact word_blank (h _ List.mem_cons_self) f
      · exact wrds_blank (fun p q => h p (List.mem_cons_of_mem _ q)) x m
theorem words_blank : ∀ {ts : Tm}, (∀ p ∈ ts, SyOk p.1) → ∀ x ∈ words ts, 32 ∉ tl x
  | [], _, x, m => absurd m (by simp [words])
  | (s, f) :: r, h, x, m => by
    rcases List.mem_cons.mp m with rfl | m
    · rw [tl_append]
      intro q
      rcases List.mem_append.mp q with q | q
      · unfold sgn1 at q
        split at q <;> exact absurd q (by decide)
      · exact word_blank (h _ List.mem_cons_self) f q
    · exact wrds_blank (fun p q => h p (List.mem_cons_of_mem _ q)) x m
theorem sy_of {ts : Tm} (h : ∀ p ∈ ts, SyOk p.1) : Sy ts := fun p m => (h p m).ne
theorem split_words {p : Str × Int} {r : Tm} (h : ∀ q ∈ p :: r, SyOk q.1) : Txt.split (textS (p :: r)) " " = words (p :: r) := by
  rw [text_words (sy_of h)]
  exact split_join (y := " ") (s := 32) (S := []) rfl (by decide +kernel) (by obtain ⟨s, f⟩ := p; simp [words]) (words_blank h)
theorem text_nil : textS [] = "0" := by
  show (if ("" : Str) = "" then ("0" : Str) else _) = _
  rw [if_pos rfl]
theorem text_zero {p : Str × Int} {r : Tm} (h : ∀ q ∈ p :: r, SyOk q.1) : textS (p :: r) ≠ "0" := by
  obtain ⟨s, f⟩ := p
  intro e
  have hs : SyOk s := h _ List.mem_cons_self
  have e1 : Txt.split (textS ((s, f) :: r)) " " = ([("0" : Str)] : List Str) := by
    rw [e]
    decide +kernel
  rw [split_words h] at e1
  have e2 : sgn1 f ++ wordS s f = "0" := (List.cons.inj e1).1
  have e3 : tl (sgn1 f) ++ tl (wordS s f) = [48] := by rw [← tl_append, e2] <;> rfl
  unfold sgn1 at e3
  by_cases g : f < 0
  · rw [if_pos g] at e3
    exact absurd (List.cons.inj e3).1 (by decide)
  · rw [if_neg g] at e3
    have e3 : tl (wordS s f) = [48] := e3
    unfold wordS at e3
    split at e3
    · exact hs.no0 (str_ext e3)
    · rw [tl_append, tl_append] at e3
      have l := congrArg List.length e3
      simp only [List.length_append, List.length_cons, List.length_nil] at l
      have := List.length_pos_iff.mpr hs.ne
      have : (tl starS).length = 1 := rfl
      omega
/-! ### a word, read -/
/-- what a word without its sign is made of -/
theorem word_rpart {s : Str} (h : SyOk s) (f : Int) : Txt.rpartition (wordS s f) "*" = if absI f = 1 then (Str.empty, Str.empty, s) else (numS f, "*", s) := by
  unfold wordS
  split
  · exact rpart_none (c := 42) rfl h.st
  · exact rpart_app (c := 42) rfl h.st
theorem num_read {f : Int} (h : f.natAbs < 10 ^ 10) : PySem.intText? (numS f) = some (absI f) := PySem.W.KIN.num_reads (absI_nonneg f) (by unfold absI; split <;> omega)
theorem starts_iff {x : Str} {c : Nat} {y : Str} (hy : tl y = [c]) : Txt.startswith x y = decide ((tl x).head? = some c) := by
  have ly : y.length = 1 := by rw [len_tl, hy] <;> rfl
  have ey : y.cps = #[c] := by
    have : y.cps.toList = [c] := hy
    exact Array.toList_inj.mp this
  unfold Txt.startswith Builtin.Str.subAt
  rw [ly, ey]
  obtain ⟨⟨l⟩⟩ := x
  cases l with
  | nil => rfl
  | cons d r =>
    have e : ({ toList := d :: r } : Array Nat).extract 0 (0 + 1) = #[d] := Array.toList_inj.mp (by simp)
    show (decide (0 + 1 ≤ (d :: r).length) && (({ toList := d :: r } : Array Nat).extract 0 (0 + 1) == #[c])) = decide (some d = some c)
    rw [e]
    by_cases q : d = c
    · subst q
      simp
    · simp [q]
end Fm

/-! ## Fm3 -/
set_option maxHeartbeats 4000000
/-! own classes: operators, str, static methods, keyword parameters -/
namespace Lw
open PySem PySem.Spec PyProof.Rows L2
theorem RoomG.in1 {k : Nat} {A : Around} (r : RoomG (k + 1) A) : RoomG k A.in1 := ⟨r.rm.in1, r.gd⟩
theorem make_guards {A : Around} {C : Addr} {us : List Value} {kw : List (Str × Value)} : (A.under (.builtin "type.__call__" ⟨.ref C :: us, kw⟩)).guards = A.guards := by
  first | rfl | simp [Around.under, Code.isGuard, guardIds]
theorem RoomG.make {k : Nat} {A : Around} (r : RoomG (k + 1) A) (C : Addr) (us : List Value) (kw : List (Str × Value)) : RoomG k (A.under (.builtin "type.__call__" ⟨.ref C :: us, kw⟩)) := ⟨r.rm.make C us kw, by rw [make_guards]; exact r.gd⟩
theorem rel_ni {v : V} {u : Value} (r : RelV v u) : u ≠ .notImplemented := by
  intro e
  subst e
  cases v <;> first | (obtain ⟨_, r⟩ := r; cases r; done) | (cases r; done)
/-- what is not reached -/
theorem ps_dead {X : Cx} {st : Stmt} : PS X st (fun _ _ _ => False) := ⟨fun _ _ _ _ _ _ h => h.elim⟩
theorem pss_dead {X : Cx} {st : List Stmt} : PSs X st (fun _ _ _ => False) := ⟨fun _ _ _ _ _ _ h => h.elim⟩
section
variable {X : Cx} {k j : Nat} {f C : Addr} {fd : FuncData} {ps : List Str} {sp : Sp} {m : Str}
/-- a call of a def, somewhere below the running body -/
theorem run_at {A : Around} {args : Args} {us : List Value} {vs : List V} {pins : List (Addr × Obj)} {σ : L2.St} {H : Hp} {s : Shared} {Q : VK} (F : FnG X.prog X.w X.K X.mg X.base k f fd ps sp) (hr : RoomG k A) (hf : A.frames = X.A.frames)
    (b : bindArgs fd args = pure (ps.zip us)) (I : Inv X pins σ H s) (r : Vals vs us) (h : sp vs H Q E0) :
    codeAny (model X.prog X.w) A (.call (.ref f) args) (fun r s' => match r with | .ok (.ret u) => EP X pins σ Q u s' | .ok _ => False | .error e => X.xe e s') s := by
  have e0 : Env0 X.prog X.w X.K X.mg X.base A X.stack s H := by
    have e := I.env0
    exact ⟨by rw [hf]; exact e.frames, e.mod, e.bs, e.bsz, e.funs, e.frf, e.hok, e.bare⟩
  refine codeAny_mono (F.run A X.stack s H args us vs Q hr e0 (.of_eq b) r h) fun r s' hq => ?_
  cases r with
  | error e => exact False.elim hq
  | ok fl =>
    cases fl with
    | ret u => exact I.after hq
    | next => exact hq
    | brk => exact hq
    | cont => exact hq
end
/-- a def of the class's body -/
structure Mt (P : Program) (w : World) (K : PySem.W.Frag) (mg : Str → Option Value) (base : Heap) (k : Nat) (C : Addr) (m : Str) (ps : List Str) (sp : Sp) : Prop where
  ex : ∃ (f : Addr) (fd : FuncData), FnG P w K mg base k f fd ps sp ∧ Meth K C m f ∧ (∀ us : List Value, us.length = ps.length → bindArgs fd ⟨us, []⟩ = pure (ps.zip us)) ∧
    (∀ (u v : Value) (a b : Str), ps = [a, b] → bindArgs fd ⟨[u], [(b, v)]⟩ = pure ([a, b].zip [u, v]))
section
variable {X : Cx} {k j : Nat} {C : Addr} {ps : List Str} {sp : Sp} {m : Str} {o e : Expr} {es : List Expr} {kws : List Keyword} {ta : TE} {t tk : TA} {pos apos : Pos}
/-- an instance of the class at C -/
def Is (C : Addr) (H : Hp) (a : Addr) : Prop := ∃ dx fs, H a = some (.ins C dx fs)
theorem is_inst {pins : List (Addr × Obj)} {σ : L2.St} {H : Hp} {s : Shared} {a : Addr} (I : Inv X pins σ H s) (h : Is C H a) : ∃ ox od, PySem.W.InstAt s.heap a ox C od := by
  obtain ⟨dx, fs, h⟩ := h
  obtain ⟨mA, J, _⟩ := ins_get I.hok h
  obtain ⟨od, J, _⟩ := J.look
  exact ⟨_, _, J⟩
/-- o.m(e, ..) -/
def tMe (C : Addr) (m : Str) (sp : Sp) (ta : TE) (t : TA) : TE := fun σ H Q => ta σ H fun x H1 => ∃ a dx fs, x = .ref a ∧ H1 a = some (.ins C dx fs) ∧ fs.lookup m = none ∧ t σ H1 fun vs H2 => sp (x :: vs) H2 Q E0
theorem pe_me {pl : Sem Bool} (he : PE X o ta) (c : Cls X.K C) (M : Mt X.prog X.w X.K X.mg X.base k C m ps sp) (hr : RoomG j X.A) (hk : k ≤ j) (ha : PA X (e :: es) t)
    (hst : starEach (e :: es) X.env = (false, eval e X.env) :: starEach es X.env := by rfl) (hpl : (backTo pos (starEach es X.env)).any (·.1) = false := by rfl)
    (ht : eval (.Call (.Attribute o m apos) (e :: es) [] pos) X.env = (do
      let ov ← eval o X.env
      standAt apos.atName
      let (f, first) ← holding [ov] (getMethod ov m pl)
      callWith pos f first (backTo pos (starEach (e :: es) X.env)) (backToKw pos (keywordEach [] X.env))) := by rfl) :
    PE X (.Call (.Attribute o m apos) (e :: es) [] pos) (tMe C m sp ta t) := by
  obtain ⟨f, fd, F, hm, b, _⟩ := M.ex
  refine ⟨fun pins s σ H Q I h => ?_⟩
  refine PySem.W.methodCall_KW (pl := pl) (thn (he.run pins s σ H _ I h) fun u s1 ⟨x, H1, I1, rx, a, dx, fs, ex, ea, l, q⟩ => ?_) ht
  subst ex
  obtain rfl : u = Value.ref a := rx
  refine getmeth_ok I1 ea c hm l ?_
  refine PySem.W.callWith_K (first := [.ref a]) (h₀ := X.base) I.ok.mod.kin hm.kp (thn (ha.run pos pins s1 σ H1 _ I1 q) fun us s2 ⟨vs, H2, I2, r, q2⟩ => ⟨I2.kIn, ?_⟩) hst hpl
  have r2 : Vals (V.ref a :: vs) (Value.ref a :: us) := .cons rfl r
  exact wpAny_call (codeAny_mono (run_at F (hr.mono hk) rfl (b (Value.ref a :: us) (by rw [← r2.length]; exact F.len _ _ _ _ q2)) I2 r2 q2) fun r s' z => by
    rcases r with e | (v | _ | _ | _) <;> exact z)
/-- o.m(k = e), m of one parameter beside self -/
theorem pe_mek {pl : Sem Bool} {p1 p2 : Str} {ev : Expr} {p : Pos} {tv : TE} (he : PE X o ta) (c : Cls X.K C) (M : Mt X.prog X.w X.K X.mg X.base k C m [p1, p2] sp) (hr : RoomG j X.A) (hk : k ≤ j) (hkw : PK X kws tk)
    (hall : (backToKw pos (keywordEach kws X.env)).all (·.1.isSome) = true := by rfl) (hks : (backToKw pos (keywordEach kws X.env)).filterMap (·.1) = [p2] := by rfl)
    (hpl : ((backTo pos (starEach [] X.env)).any (·.1) || (backToKw pos (keywordEach kws X.env)).any (·.1.isNone)) = false := by rfl)
    (ht : eval (.Call (.Attribute o m apos) [] kws pos) X.env = (do
      let ov ← eval o X.env
      standAt apos.atName
      let (f, first) ← holding [ov] (getMethod ov m pl)
      callWith pos f first (backTo pos (starEach [] X.env)) (backToKw pos (keywordEach kws X.env))) := by rfl) :
    PE X (.Call (.Attribute o m apos) [] kws pos) (tMe C m sp ta tk) := by
  obtain ⟨f, fd, F, hm, _, b⟩ := M.ex
  refine ⟨fun pins s σ H Q I h => ?_⟩
  refine PySem.W.methodCall_KW (pl := pl) (thn (he.run pins s σ H _ I h) fun u s1 ⟨x, H1, I1, rx, a, dx, fs, ex, ea, l, q⟩ => ?_) ht
  subst ex
  obtain rfl : u = Value.ref a := rx
  refine getmeth_ok I1 ea c hm l ?_
  refine PySem.W.callWith_KW0 (first := [.ref a]) (h₀ := X.base) I.ok.mod.kin hm.kp hall (thn (hkw.run pos pins s1 σ H1 _ I1 q) fun us s2 ⟨vs, H2, I2, r, q2⟩ => ⟨I2.kIn, ?_⟩) hpl
  rw [hks]
  have r2 : Vals (V.ref a :: vs) (Value.ref a :: us) := .cons rfl r
  obtain ⟨v, rfl⟩ : ∃ v, us = [v] := by
    have l2 := F.len _ _ _ _ q2
    have l3 := r.length
    simp at l2
    match us, (show us.length = 1 by omega) with
    | [v], _ => exact ⟨v, rfl⟩
  exact wpAny_call (codeAny_mono (run_at F (hr.mono hk) rfl (b _ _ _ _ rfl) I2 r2 q2) fun r s' z => by
    rcases r with e | (v | _ | _ | _) <;> exact z)
/-! ### operators -/
/-- a op b by the own method of a's class -/
def rOwn (C : Addr) (sp : Sp) : R2 := fun x y H Q => ∃ a b, x = .ref a ∧ y = .ref b ∧ Is C H a ∧ Is C H b ∧ sp [x, y] H Q E0
theorem call_bin {pins : List (Addr × Obj)} {σ : L2.St} {H : Hp} {s : Shared} {Q : VK} {f : Addr} {fd : FuncData} {us : List Value} {vs : List V} (F : FnG X.prog X.w X.K X.mg X.base k f fd ps sp) (hr : RoomG k X.A) (b : bindArgs fd ⟨us, []⟩ = pure (ps.zip us)) (I : Inv X pins σ H s) (r : Vals vs us) (h : sp vs H Q E0) :
    wpAny (model X.prog X.w) X.A (call (.ref f) us) (PySem.W.CmpBack (EP X pins σ Q)) X.xe s := by
  refine wpAny_call (codeAny_mono (run_at F hr rfl b I r h) fun r s' z => ?_)
  cases r with
  | error e => exact z
  | ok fl =>
    cases fl with
    | ret v =>
      obtain ⟨y, H', I', ry, q⟩ := z
      have n := rel_ni ry
      show PySem.W.CmpBack _ v s'
      cases v <;> first | exact absurd rfl n | exact ⟨y, H', I', ry, q⟩
    | next => exact z
    | brk => exact z
    | cont => exact z
theorem op_own {op : Operator} (M : Mt X.prog X.w X.K X.mg X.base k C (PySem.dunder op.info.2) ps sp) (hr : RoomG j X.A) (hk : k ≤ j) (hc : PySem.W.selfFirst X.K C = true) : OpR X (binaryOp op) (rOwn C sp) := by
  obtain ⟨f, fd, F, hm, b, _⟩ := M.ex
  intro pins s σ H x y v u Q I rx ry hq
  obtain ⟨a, c, rfl, rfl, ha, hb, h⟩ := hq
  cases rx
  cases ry
  obtain ⟨ox, od, J⟩ := is_inst I ha
  obtain ⟨ox', od', J'⟩ := is_inst I hb
  obtain ⟨m, hF⟩ := I.fr
  exact PySem.W.binop_K hF I.ok.mod.kin J J'.type hc hm.at_ hm.fn (call_bin (vs := [V.ref a, V.ref c]) (us := [Value.ref a, Value.ref c]) F (hr.mono hk) (b _ (F.len _ _ _ _ h).symm.symm) I (.cons rfl (.cons rfl .nil)) h)
/-- a op i, i an int -/
def rOwnI (C : Addr) (sp : Sp) : R2 := fun x y H Q => ∃ a i, x = .ref a ∧ y = .int i ∧ Is C H a ∧ sp [x, y] H Q E0
theorem op_ownI {op : Operator} {fo ro rc : Option Value} (M : Mt X.prog X.w X.K X.mg X.base k C (PySem.dunder op.info.2) ps sp) (hr : RoomG j X.A) (hk : k ≤ j) (hc : PySem.W.selfFirst X.K C = true)
    (h0 : PySem.W.findIn X.K (.ref C) (dunderR op.info.2) = some rc) (hp : rc = none ∨ ∃ g : Addr, rc = some (.ref g)) (h1 : PySem.W.findIn X.K (.type "int") (PySem.dunder op.info.2) = some fo) (h2 : PySem.W.findIn X.K (.type "int") (dunderR op.info.2) = some ro)
    (hsub : PySem.W.subIn X.K (.type "int") (.ref C) = some false) : OpR X (binaryOp op) (rOwnI C sp) := by
  obtain ⟨f, fd, F, hm, b, _⟩ := M.ex
  intro pins s σ H x y v u Q I rx ry hq
  obtain ⟨a, i, rfl, rfl, ha, h⟩ := hq
  cases rx
  obtain ⟨t, rfl⟩ := ry
  obtain ⟨ox, od, J⟩ := is_inst I ha
  obtain ⟨m, hF⟩ := I.fr
  exact PySem.W.ksp_binT hF I.ok.mod.kin J rfl hc hm.at_ hm.fn h0 hp h1 h2 hsub (call_bin (vs := [V.ref a, V.int i]) (us := [Value.ref a, Value.int i t]) F (hr.mono hk) (b _ (F.len _ _ _ _ h)) I (.cons rfl (.cons ⟨t, rfl⟩ .nil)) h)
/-- -a -/
def rNegO (C : Addr) (sp : Sp) : V → Hp → VK → Prop := fun x H Q => ∃ a, x = .ref a ∧ Is C H a ∧ sp [x] H Q E0
theorem un_own (M : Mt X.prog X.w X.K X.mg X.base k C "__neg__" ps sp) (hr : RoomG j X.A) (hk : k ≤ j) : UnR X (unaryOp .USub) (rNegO C sp) := by
  obtain ⟨f, fd, F, hm, b, _⟩ := M.ex
  intro pins s σ H x v Q I rx hq
  obtain ⟨a, rfl, ha, h⟩ := hq
  cases rx
  obtain ⟨ox, od, J⟩ := is_inst I ha
  obtain ⟨m, hF⟩ := I.fr
  refine PySem.W.ksp_neg hF I.ok.mod.kin J hm.at_ hm.fn (wpAny_call (codeAny_mono (run_at (vs := [V.ref a]) (us := [Value.ref a]) F (hr.mono hk) rfl (b _ (F.len _ _ _ _ h)) I (.cons rfl .nil) h) fun r s' z => ?_))
  rcases r with e | (v | _ | _ | _) <;> exact z
/-! ### str(a) -/
def rStrO (C : Addr) (sp : Sp) : List V → Hp → VK → Prop := fun xs H Q => ∃ a, xs = [.ref a] ∧ Is C H a ∧ sp [.ref a] H (fun v H' => (∃ z, v = .str z) ∧ Q v H') E0
open PySem.Builtin PySem.Builtin.Str in
theorem call_strO (M : Mt X.prog X.w X.K X.mg X.base k C "__str__" ps sp) (hr : RoomG j X.A) (hk : k + 4 ≤ j) : CallR X (.type "str") (rStrO C sp) := by
  obtain ⟨f, fd, F, hm, b, _⟩ := M.ex
  intro pins s σ H xs us Q I r hq
  obtain ⟨a, rfl, ha, h⟩ := hq
  obtain ⟨u, rfl, rx⟩ := vals1 r
  cases rx
  obtain ⟨ox, od, J⟩ := is_inst I ha
  have hr4 : RoomG (k + 4) X.A := hr.mono hk
  have hr2 : RoomG (k + 2) X.A.in1.in1 := hr4.in1.in1
  have hr3 : RoomG k X.A.in1.in1 := hr2.mono (by omega)
  have XK := I.kIn
  refine PySem.callType_codes (T := "str") (Bi := Builtin.«object.__init__») (Q₁ := fun r s₁ => ∃ y u, r = .str y u ∧ EP X pins σ Q r s₁) PySem.F.called_str (PySem.F.typeCall_str_1 _) PySem.F.entry_object_init ?_ ?_
  · refine codeAny_of_tree ?_
    show wpAny _ X.A.in1.in1 (do checkBuiltinCall "str.__new__" ⟨[.type "str", .ref a], []⟩; again (.builtin "str.__new__" ⟨[.type "str", .ref a], []⟩)) _ _ s
    refine wpAny_bind (wpAny_of_eq (PySem.F.newCall_str_1 _) (wpAny_pure ⟨plainId_quiet (by decide +kernel) _, codeAny_builtin PySem.F.entry_str_new ?_⟩))
    rw [Around.under_plainId (by decide +kernel) _]
    rw [str_new_tree]
    refine wpAny_bind (wpAny_pure ?_)
    refine wpAny_bind (wpAny_of_eq isSubtype_str_str ?_)
    have key : wpAny (model X.prog X.w) X.A.in1.in1 (PySem.Builtin.Str.strOf (.ref a)) (fun r s₁ => ∃ y u, r = .str y u ∧ EP X pins σ Q r s₁) X.xe s := by
      unfold PySem.Builtin.Str.strOf
      rw [show isExactStr (.ref a) = false from rfl]
      refine wpAny_bind (m := cRoomFor _ _) (wpAny_cRoomFor hr3.rm.units0 ?_)
      refine wpAny_bind (m := callSpecial? (.ref a) (Str.ofString "__str__")) (PySem.W.special_fn XK J hm.at_ (beq_iff_eq.mp hm.fn) ?_)
      refine wpAny_call (codeAny_mono (run_at (vs := [V.ref a]) (us := [Value.ref a]) F hr3 rfl (b _ (F.len _ _ _ _ h)) I (.cons rfl .nil) h) fun r s' z => ?_)
      cases r with
      | error e => exact z
      | ok fl =>
        cases fl with
        | ret v =>
          obtain ⟨y, H', I', ry, ⟨zz, rfl⟩, q⟩ := z
          obtain ⟨t, rfl⟩ := ry
          exact wpAny_pure ⟨zz, t, rfl, V.str zz, H', I', ⟨t, rfl⟩, q⟩
        | next => exact z
        | brk => exact z
        | cont => exact z
    exact wpAny_bind (wpAny_mono key (fun r s₁ hr => wpAny_pure hr) fun _ _ y => y)
  · rintro obj s₁ ⟨y, u, rfl, hq⟩
    exact ⟨typeIs_str _ _ _, PySem.F.args_object_init_2 _ _, object_init_meets PySem.F.called_str.init.lookup PySem.F.called_str.made (by decide) X.prog X.w X.A.in1 _ s₁ ⟨typeIs_str _ _ _, rfl, hq⟩⟩
end
end Lw

/-! ## Fm4 -/
set_option maxHeartbeats 4000000
/-! rpartition; dict of a tuple of pairs; sorted of pairs (text, int); static methods; **parameters -/
namespace Lw
open PySem PySem.Spec PyProof.Rows L2
section
variable {X : Cx}
theorem mt_rpartition : MtR X "str.rpartition" (fun x xs H Q => ∃ a b, x = .str a ∧ xs = [.str b] ∧ (b.length == 0) = false ∧ a.length ≤ sizeLine ∧
    ∀ p, H p = none → Q (.ref p) (upd H p (.tup [.str (Txt.rpartition a b).1, .str (Txt.rpartition a b).2.1, .str (Txt.rpartition a b).2.2]))) := by
  intro pins s σ H x xs v us Q I rx rs h
  obtain ⟨a, b, rfl, rfl, hb, hz, h⟩ := h
  obtain ⟨t, rfl⟩ := rx
  cases rs with
  | cons r1 rs =>
    cases rs
    obtain ⟨u, rfl⟩ := r1
    refine call_meets F.slot_str_rpartition (typeIs_str _ _ _) F.entry_str_rpartition (F.args_str_rpartition_2 _ _) (meets_str_rpartition a b t u hb hz) ?_
    unfold Txt.rpartition at h
    revert h
    cases Builtin.Str.lastOccurrence a b 0 a.length with
    | none => intro h; exact laid_parts I h
    | some i => intro h; exact laid_parts I h
theorem pe_rpartition {o e : Expr} {to te : TE} {apos pos : Pos} (ho : PE X o to) (he : PE X e te) (hs : starEach [e] X.env = [(false, eval e X.env)] := by rfl) (hbase : attributeBase o "rpartition" X.env (eval o X.env) = eval o X.env := by rfl) (hline : (apos.endLine == pos.line) = true := by rfl) :
    PE X (.Call (.Attribute o "rpartition" apos) [e] [] pos) (tM1 (fun x xs H Q => ∃ a b, x = .str a ∧ xs = [.str b] ∧ (b.length == 0) = false ∧ a.length ≤ sizeLine ∧
      ∀ p, H p = none → Q (.ref p) (upd H p (.tup [.str (Txt.rpartition a b).1, .str (Txt.rpartition a b).2.1, .str (Txt.rpartition a b).2.2]))) to te) :=
  pe_m1 F.slot_str_rpartition F.type_str_rpartition mt_rpartition ho he hs hbase hline
/-! ### tuples whose object is known -/
def TupF (H : Hp) (p : Addr) (xs : List V) : Prop := ∃ o : Obj, o.dict = none ∧ H p = some (.frz o (.tup xs))
theorem TupF.sq {K : PySem.W.Frag} {H : Hp} {p : Addr} {xs : List V} (h : TupF H p xs) : SqT K H p xs := by
  obtain ⟨o, _, h⟩ := h
  exact .inl (.inr ⟨o, h⟩)
theorem TupF.same {H H' : Hp} {p : Addr} {xs : List V} (s : Same H H') (h : TupF H p xs) : TupF H' p xs := by
  obtain ⟨o, d, h⟩ := h
  exact ⟨o, d, s _ _ h⟩
/-- tuple(xs), xs a list: a new tuple -/
theorem call_tupleF : CallR X (.type "tuple") (fun xs H Q => ∃ p ys, xs = [.ref p] ∧ SqL X.K H p ys ∧ ∀ l H', H l = none → Same H H' → TupF H' l ys → Q (.ref l) H') := by
  intro pins s σ H xs us Q I r h
  obtain ⟨p, ys, rfl, hq, q⟩ := h
  obtain ⟨u, rfl, rx⟩ := vals1 r
  cases rx
  obtain ⟨its, r', pl, hz⟩ := I.list hq
  have hlen := r'.length
  refine call_tuple_list pl.isList (fun h' kp => ?_) (by simp only [List.size_toArray] <;> omega)
  have I1 : Inv X pins σ H { s with heap := h' } := I.kept (t' := s.toks) kp
  have hn := I1.hok.fresh (Nat.le_refl _)
  have I2 : Inv X pins σ (upd H h'.objs.size (.frz { cls := .type "tuple", data := .seq its.toArray } (.tup ys))) { s with heap := h'.push { cls := .type "tuple", data := .seq its.toArray } } :=
    I1.laid (t' := s.toks) (fun b o e => Heap.get?_push_of_some _ e) (Nat.le_refl _) (show ObjOk X.prog X.w _ _ _ (.frz _ (.tup ys)) from ⟨Heap.get?_push_size _ rfl, hz, its, r', IsTup.new _ _⟩)
  exact ⟨.ref h'.objs.size, _, I2, rfl, q _ _ hn (Same.new hn) ⟨_, rfl, upd_same⟩⟩
/-! ### dict of a tuple of pairs -/
theorem call_dictPT (hcalm : X.calm = true) : CallR X (.type "dict") (fun xs H Q => ∃ (a : Addr) (ps : List Addr) (kvs : List (Key × V)), xs = [.ref a] ∧ TupF H a (ps.map V.ref) ∧ Paired (fun p kv => SqT X.K H p [kV kv.1, kv.2]) ps kvs ∧
    ∀ p, H p = none → Q (.ref p) (upd H p (.dK (mergeK [] kvs)))) := by
  intro pins s σ H xs us Q I r q
  obtain ⟨a, ps, kvs, ex, hq, hp, q⟩ := q
  subst ex
  obtain ⟨u, eu, rx⟩ := vals1 r
  subst eu
  cases rx
  obtain ⟨o, hd, hf⟩ := hq
  obtain ⟨ho, hz, its, rv, o', ho', hc, n, hdat⟩ := (show ObjOk X.prog X.w H s.heap a (.frz o (.tup (ps.map V.ref))) from I.hok a _ hf)
  rw [ho] at ho'
  cases ho'
  have ei := refs_at rv
  subst ei
  rw [List.length_map] at hz
  obtain ⟨prs, rel, hl, hpr⟩ := pairs_of I hp
  -- the keys' values
  obtain ⟨vks, hvk⟩ : ∃ vks : List (Value × Value), vks.length = prs.length ∧ ∀ (j : Nat) (q : Key × Value), prs[j]? = some q → ∃ (b : Addr) (u : Value), ps[j]? = some b ∧ IsTup s.heap b #[u, q.2] ∧ keyIs q.1 u = true ∧ vks[j]? = some (u, q.2) := by
    have : ∀ (qs : List (Key × Value)) (c : Nat), (∀ (j : Nat) (q : Key × Value), qs[j]? = some q → ∃ (b : Addr) (u : Value), ps[c + j]? = some b ∧ IsTup s.heap b #[u, q.2] ∧ keyIs q.1 u = true) →
        ∃ vks : List (Value × Value), vks.length = qs.length ∧ ∀ (j : Nat) (q : Key × Value), qs[j]? = some q → ∃ (b : Addr) (u : Value), ps[c + j]? = some b ∧ IsTup s.heap b #[u, q.2] ∧ keyIs q.1 u = true ∧ vks[j]? = some (u, q.2) := by
      intro qs
      induction qs with
      | nil => exact fun c _ => ⟨[], rfl, fun j q e => by simp at e⟩
      | cons x r ih =>
        intro c h
        obtain ⟨b, u, e1, e2, e3⟩ := h 0 x rfl
        obtain ⟨vks, l, k⟩ := ih (c + 1) fun j q e => by
          obtain ⟨b, u, e1, e2, e3⟩ := h (j + 1) q (by simpa using e)
          exact ⟨b, u, by rw [show c + 1 + j = c + (j + 1) by omega]; exact e1, e2, e3⟩
        refine ⟨(u, x.2) :: vks, by rw [List.length_cons, List.length_cons, l], fun j q e => ?_⟩
        cases j with
        | zero =>
          cases (show x = q from Option.some.inj e)
          exact ⟨b, u, e1, e2, e3, rfl⟩
        | succ j =>
          obtain ⟨b, u', e1, e2, e3, e4⟩ := k j q (by simpa using e)
          exact ⟨b, u', by rw [show c + (j + 1) = c + 1 + j by omega]; exact e1, e2, e3, by simpa using e4⟩
    obtain ⟨vks, l, k⟩ := this prs 0 fun j q e => by
      obtain ⟨b, u, e1, e2, e3⟩ := hpr j q e
      exact ⟨b, u, by rw [Nat.zero_add]; exact e1, e2, e3⟩
    exact ⟨vks, l, fun j q e => by
      obtain ⟨b, u, e1, r⟩ := k j q e
      exact ⟨b, u, by rw [Nat.zero_add] at e1; exact e1, r⟩⟩
  obtain ⟨lv, hvk⟩ := hvk
  have lps : vks.length = ps.length := lv.trans hl
  refine PySem.call_dict_pairs (knd := mixKind X.prog X.w) (kvs := prs) (PairArg.tuple a (ps.map Value.ref).toArray (fun j => ps.getD j 0) vks) (I.ok.hd hcalm) ⟨⟨o, n, ho, hc, hd, hdat⟩, ⟨by rw [List.size_toArray, List.length_map, lps], fun j k v e => ?_⟩⟩ ⟨lv.symm, fun i key v e => ?_⟩ (by rw [lps]; exact hz) fun h' tk hd' kk => ?_
  · obtain ⟨q, hq⟩ : ∃ q, prs[j]? = some q := ⟨_, List.getElem?_eq_getElem (by have := (List.getElem?_eq_some_iff.mp e).1; omega)⟩
    obtain ⟨b, u, e1, e2, e3, e4⟩ := hvk j q hq
    rw [e] at e4
    cases e4
    have eb : ps.getD j 0 = b := by rw [List.getD_eq_getElem?_getD, e1] <;> rfl
    dsimp only
    rw [eb]
    refine ⟨by rw [List.getElem?_toArray, List.getElem?_map, e1] <;> rfl, .inl ?_⟩
    obtain ⟨ob, g1, g2, n2, g3⟩ := e2
    exact ⟨ob, g1, g2, n2, g3⟩
  · obtain ⟨q, hq⟩ : ∃ q, prs[i]? = some q := ⟨_, List.getElem?_eq_getElem (by have := (List.getElem?_eq_some_iff.mp (show vks[i]? = some (key, v) from e)).1; omega)⟩
    obtain ⟨b, u, e1, e2, e3, e4⟩ := hvk i q hq
    rw [show vks[i]? = some (key, v) from e] at e4
    cases e4
    exact ⟨q.1, hq, e3⟩
  · have hm : (s.heap.objs.size == sysModules) = false := beq_eq_false_iff_ne.mpr (Nat.ne_of_gt I.big)
    have hlen : (mergeK [] kvs).length ≤ sizeLine := by
      refine Nat.le_trans (length_mergeK kvs []) ?_
      rw [List.length_nil, Nat.zero_add, rel.length, hl]
      exact hz
    exact ⟨.ref s.heap.objs.size, upd H s.heap.objs.size (.dK (mergeK [] kvs)), I.laid (t' := tk) (fun b o e => kk b o (fun m => nomatch m) e) (Nat.le_refl _) (show ObjOk X.prog X.w _ _ _ (.dK (mergeK [] kvs)) from ⟨hlen, hm, merged [] prs, KV.merge rel .nil, hd'⟩), rfl, q _ (I.hok.fresh (Nat.le_refl _))⟩
/-! ### sorted of pairs (text, int) -/
abbrev Ent := Addr × Str × Int
def encE (b : Ent) : PyData := .tuple [.str b.2.1, .int b.2.2]
theorem ltE (p q : Ent) : PySem.W.dataLt (encE p) (encE q) = decide (p.2.1.cps.toList < q.2.1.cps.toList ∨ (p.2.1 = q.2.1 ∧ p.2.2 < q.2.2)) := by
  unfold encE
  rw [PySem.W.dataLt_pair (by simp [PySem.W.alike]) (by simp [PySem.W.alike]), PySem.W.dataLt_str, PySem.W.dataLt_int]
  simp only [PyData.eqv, beq_iff_eq]
  by_cases h1 : p.2.1 = q.2.1
  · rw [if_pos h1]
    have n : ¬ p.2.1.cps.toList < q.2.1.cps.toList := by
      rw [h1]
      exact List.lt_irrefl _
    by_cases h2 : p.2.2 = q.2.2
    · rw [if_pos h2]
      refine (decide_eq_false fun h => ?_).symm
      rcases h with h | ⟨_, h⟩
      · exact n h
      · omega
    · rw [if_neg h2]
      exact decide_eq_decide.mpr ⟨fun h => .inr ⟨h1, h⟩, fun h => h.elim (fun h => (n h).elim) fun h => h.2⟩
  · rw [if_neg h1]
    exact decide_eq_decide.mpr ⟨fun h => .inl h, fun h => h.elim id fun h => (h1 h.1).elim⟩
theorem leE : PySem.W.dataLe false encE = fun p q => decide (¬ (q.2.1.cps.toList < p.2.1.cps.toList ∨ (q.2.1 = p.2.1 ∧ q.2.2 < p.2.2))) := by
  rw [PySem.W.dataLe_eq]
  funext p q
  show (!PySem.W.dataLt (encE q) (encE p)) = _
  rw [ltE]
  simp only [decide_not]
theorem str_tri (a b : List Nat) : a < b ∨ a = b ∨ b < a := by
  by_cases h : a < b
  · exact .inl h
  · by_cases k : b < a
    · exact .inr (.inr k)
    · exact .inr (.inl (List.le_antisymm (List.not_lt.mp k) (List.not_lt.mp h)))
theorem str_eq {a b : Str} (h : a.cps.toList = b.cps.toList) : a = b := by
  obtain ⟨⟨x⟩⟩ := a
  obtain ⟨⟨y⟩⟩ := b
  have h : x = y := h
  rw [h]
theorem sortE (bs : List Ent) : (bs.mergeSort (PySem.W.dataLe false encE)).Pairwise (fun p q => ¬ q.2.1.cps.toList < p.2.1.cps.toList) := by
  have tr : ∀ a b c : Ent, PySem.W.dataLe false encE a b = true → PySem.W.dataLe false encE b c = true → PySem.W.dataLe false encE a c = true := by
    intro a b c h1 h2
    rw [leE] at h1 h2 ⊢
    have h1 := of_decide_eq_true h1
    have h2 := of_decide_eq_true h2
    refine decide_eq_true fun h => ?_
    rcases str_tri a.2.1.cps.toList b.2.1.cps.toList with l | e | l
    · rcases str_tri b.2.1.cps.toList c.2.1.cps.toList with l' | e' | l'
      · have := List.lt_trans l l'
        rcases h with h | ⟨h, _⟩
        · exact List.lt_irrefl _ (List.lt_trans this h)
        · rw [h] at this
          exact List.lt_irrefl _ this
      · have e' := str_eq e'
        rcases h with h | ⟨h, _⟩
        · rw [← e'] at h
          exact List.lt_irrefl _ (List.lt_trans l h)
        · rw [e', h] at l
          exact List.lt_irrefl _ l
      · exact h2 (.inl l')
    · have e := str_eq e
      rcases str_tri b.2.1.cps.toList c.2.1.cps.toList with l' | e' | l'
      · rcases h with h | ⟨h, _⟩
        · rw [e] at h
          exact List.lt_irrefl _ (List.lt_trans l' h)
        · rw [← e, h] at l'
          exact List.lt_irrefl _ l'
      · have e' := str_eq e'
        rcases h with h | ⟨h, hi⟩
        · rw [e, e'] at h
          exact List.lt_irrefl _ h
        · by_cases g : b.2.2 < a.2.2
          · exact h1 (.inr ⟨e.symm, g⟩)
          · exact h2 (.inr ⟨e'.symm, by omega⟩)
      · exact h2 (.inl l')
    · exact h1 (.inl l)
  have to : ∀ a b : Ent, (PySem.W.dataLe false encE a b || PySem.W.dataLe false encE b a) = true := by
    intro a b
    rw [leE]
    simp only [Bool.or_eq_true, decide_eq_true_eq]
    rcases str_tri a.2.1.cps.toList b.2.1.cps.toList with l | e | l
    · refine .inl fun h => ?_
      rcases h with h | ⟨h, _⟩
      · exact List.lt_irrefl _ (List.lt_trans l h)
      · rw [h] at l
        exact List.lt_irrefl _ l
    · have e := str_eq e
      by_cases g : b.2.2 < a.2.2
      · refine .inr fun h => ?_
        rcases h with h | ⟨_, h⟩
        · rw [e] at h
          exact List.lt_irrefl _ h
        · omega
      · refine .inl fun h => ?_
        rcases h with h | ⟨_, h⟩
        · rw [e] at h
          exact List.lt_irrefl _ h
        · exact g h
    · refine .inr fun h => ?_
      rcases h with h | ⟨h, _⟩
      · exact List.lt_irrefl _ (List.lt_trans l h)
      · rw [h] at l
        exact List.lt_irrefl _ l
  refine (List.pairwise_mergeSort (le := PySem.W.dataLe false encE) tr to bs).imp fun {p q} h => ?_
  rw [leE] at h
  exact fun l => (of_decide_eq_true h) (.inl l)
theorem each_refs {bs : List Ent} : ∀ {out : List Value}, PySem.W.EachIs (fun v (b : Ent) => v = Value.ref b.1) out bs → out = bs.map fun b => Value.ref b.1 := by
  induction bs with
  | nil =>
    intro out h
    cases h
    rfl
  | cons b r ih =>
    intro out h
    cases h with
    | cons h1 t => rw [h1, ih t] <;> rfl
theorem refs_each : ∀ bs : List Ent, PySem.W.EachIs (fun v (b : Ent) => v = Value.ref b.1) (bs.map fun b => Value.ref b.1) bs
  | [] => .nil
  | b :: r => .cons rfl (refs_each r)
/-- sorted(xs), xs a list of pairs (text, int) -/
def rSortE (K : PySem.W.Frag) : List V → Hp → VK → Prop := fun vs H Q => ∃ (a : Addr) (bs : List Ent), vs = [V.ref a] ∧ SqL K H a (bs.map fun b => V.ref b.1) ∧ (∀ b ∈ bs, SqT K H b.1 [.str b.2.1, .int b.2.2]) ∧ bs.length ≤ 1000 ∧
  ∀ (L : List Ent) p, L.Perm bs → L.Pairwise (fun p q => ¬ q.2.1.cps.toList < p.2.1.cps.toList) → H p = none → Q (.ref p) (upd H p (.lst (L.map fun b => V.ref b.1)))
theorem vals_refs : ∀ bs : List Ent, Vals (bs.map fun b => V.ref b.1) (bs.map fun b => Value.ref b.1)
  | [] => .nil
  | b :: r => .cons rfl (vals_refs r)
theorem call_sortE {k : Nat} (hr : RoomG k X.A) : CallR X (.builtin "sorted") (rSortE X.K) := by
  intro pins s σ H vs us Q I r h
  obtain ⟨a, bs, rfl, hs, hb, hl, q⟩ := h
  obtain ⟨u, rfl, ru⟩ := vals1 r
  cases ru
  obtain ⟨its, rv, pl, hz⟩ := I.list hs
  have ei : its = bs.map fun b => Value.ref b.1 := by
    have : bs.map (fun b => V.ref b.1) = (bs.map (·.1)).map V.ref := by rw [List.map_map] <;> rfl
    rw [this] at rv
    rw [refs_at rv, List.map_map] <;> rfl
  subst ei
  have hu := hr.units
  have er : PySem.W.EachIs (fun v (b : Ent) => ∃ as, Reads s.heap v (encE b) as) (bs.map fun b => Value.ref b.1) bs := by
    have : ∀ cs : List Ent, (∀ b ∈ cs, SqT X.K H b.1 [.str b.2.1, .int b.2.2]) → PySem.W.EachIs (fun v (b : Ent) => ∃ as, Reads s.heap v (encE b) as) (cs.map fun b => Value.ref b.1) cs := by
      intro cs
      induction cs with
      | nil => exact fun _ => .nil
      | cons c r ih => exact fun h => .cons (Dp.reads I (encE c) (.ref c.1) (.ref c.1) (.tup (h c List.mem_cons_self) (.cons (.str _) (.cons (.int _) .nil))) rfl) (ih fun b m => h b (List.mem_cons_of_mem _ m))
    exact this bs hb
  refine PySem.W.sorted_data (bs := bs) (enc := encE) (R := fun v b => v = Value.ref b.1) pl.isList (refs_each bs) er (PySem.W.AllAlike.of fun b b' => by simp [encE, PySem.W.alike, PySem.W.alikeAll]) (PySem.W.Sortable.tuples fun b => ⟨_, _, rfl⟩) (Nat.le_trans hl (by decide)) (fun b _ => ?_) fun out lo eo => ?_
  · have : (encE b).depth ≤ 2 := by
      simp [encE, PyData.depth, PyData.depthAll]
    omega
  · have eo := each_refs eo
    subst eo
    have hp := List.mergeSort_perm bs (PySem.W.dataLe false encE)
    have hn := I.hok.fresh (Nat.le_succ s.heap.objs.size)
    obtain ⟨e, he⟩ := sortedAll_at s.heap (bs.map fun b => Value.ref b.1) ((bs.mergeSort (PySem.W.dataLe false encE)).map fun b => Value.ref b.1).toArray
    have hL : ((bs.mergeSort (PySem.W.dataLe false encE)).map fun b => V.ref b.1).length ≤ sizeLine := by
      rw [List.length_map, hp.length_eq]
      exact Nat.le_trans hl (by decide)
    have I2 : Inv X pins σ (upd H (s.heap.objs.size + 1) (.lst ((bs.mergeSort (PySem.W.dataLe false encE)).map fun b => V.ref b.1))) { s with heap := sortedAll s.heap (bs.map fun b => Value.ref b.1) ((bs.mergeSort (PySem.W.dataLe false encE)).map fun b => Value.ref b.1).toArray } :=
      I.laid (t' := s.toks) (fun b o q => sortedAll_old q) (Nat.le_succ _) (show ObjOk X.prog X.w _ _ _ (.lst _) from ⟨hL, _, e, vals_refs _, he⟩)
    exact ⟨.ref (s.heap.objs.size + 1), _, I2, rfl, q _ _ hp (sortE bs) hn⟩
end
end Lw

/-! ## Fm5 -/
set_option maxHeartbeats 4000000
/-! sorted(d.items()); static methods; an __init__ of **parameters -/
namespace Lw
open PySem PySem.Spec PyProof.Rows L2
section
variable {X : Cx}
abbrev entK (e : Str × Int) : Key × V := (Sum.inr e.1, V.int e.2)
def rItemsK : V → List V → Hp → VK → Prop := fun x xs H Q => ∃ (a : Addr) (kvs : List (Key × V)), x = .ref a ∧ xs = [] ∧ H a = some (.dK kvs) ∧ ∀ p, H p = none → Q (.ref p) (upd H p (L2.DX.itemsO p a))
theorem mt_itemsK : MtR X "dict.items" rItemsK := by
  intro pins s σ H x xs v us Q I rx rxs h
  obtain ⟨a, kvs, rfl, rfl, ha, q⟩ := h
  cases rx
  cases rxs
  obtain ⟨hz, hs0, vs, kv, hdo⟩ := I.hok a _ ha
  obtain ⟨es, ep, hraw, _⟩ := hdo.raw
  refine DT.callItems (es := es) (ep := ep) hs0 hraw ?_
  have hf : H s.heap.objs.size = none := I.hok.fresh (Nat.le_refl _)
  exact ⟨.ref s.heap.objs.size, upd H s.heap.objs.size (L2.DX.itemsO s.heap.objs.size a), I.laid (t' := s.toks) (fun b u e => Heap.get?_push_of_some _ e) (Nat.le_refl _) (L2.DX.itemsO_ok (Heap.get?_push_size _ rfl)), rfl, q _ hf⟩
def rSortItE : List V → Hp → VK → Prop := fun vs H Q => ∃ (p a : Addr) (ks : List (Str × Int)), vs = [.ref p] ∧ H p = some (L2.DX.itemsO p a) ∧ H a = some (.dK (ks.map entK)) ∧ ks.length ≤ 1000 ∧
  ∀ (H' : Hp) (l : Addr) (L : List Ent), Same H H' → H l = none → (L.map (·.2)).Perm ks → L.Pairwise (fun p q => ¬ q.2.1.cps.toList < p.2.1.cps.toList) → H' l = some (.lst (L.map fun b => V.ref b.1)) →
    (∀ b ∈ L, H' b.1 = some (.tup [.str b.2.1, .int b.2.2])) → Q (.ref l) H'
theorem call_sortItE {k : Nat} (hr : RoomG k X.A) (hc : X.calm = true) : CallR X (.builtin "sorted") rSortItE := by
  intro pins s σ H xs us Q I r h
  obtain ⟨p, a, ks, rfl, hp, ha, hlen, q⟩ := h
  obtain rfl := Vals.ref1 r
  have hu := hr.units
  have view : s.heap.IsItemsView p a := (show ObjOk X.prog X.w H s.heap p (L2.DX.itemsO p a) from I.hok p _ hp).1
  obtain ⟨hz, hs0, vs, kv, hdo⟩ := I.hok a _ ha
  obtain ⟨es, ep, hraw, l2, hes⟩ := hdo.raw
  have l1 : (ks.map entK).length = vs.length := Paired.length kv
  rw [List.length_map] at l1
  have hh : X.A.handled = none := I.ok.hd hc
  refine DT.sortedI (es := es) (ep := ep) hh view hraw (by rw [sizeLine_eq]; omega) fun h' tk as hk hlt hl hG => ?_
  have lak : as.length = ks.length := by omega
  have nd : as.Nodup := List.Pairwise.imp (fun h => Nat.ne_of_lt h) hG.rise
  -- the pairs that were made
  have pr : ∀ (j : Nat) (b : Addr), as[j]? = some b → ∃ (e : Str × Int) (t1 t2 : Tok), ks[j]? = some e ∧ h'.get? b = some { cls := .type "tuple", data := .seq #[Value.str e.1 t1, Value.int e.2 t2] } := by
    intro j b hj
    obtain ⟨en, he, hg⟩ := hG.pairs j b hj
    have hjs : j < es.size := (Array.getElem?_eq_some_iff.mp he).1
    obtain ⟨v, hv⟩ : ∃ v, vs[j]? = some v := ⟨_, List.getElem?_eq_getElem (by omega)⟩
    obtain ⟨k1, k2⟩ := hes j hjs v.1 v.2 hv
    have ee : es[j] = en := (Array.getElem?_eq_some_iff.mp he).2
    rw [ee] at k1 k2
    obtain ⟨e0, he0, r1, r2⟩ := L2.DX.pget kv hv
    rw [List.getElem?_map] at he0
    obtain ⟨e, he1, rfl⟩ := Option.map_eq_some_iff.mp he0
    have r1 : (Sum.inr e.1 : Key) = v.1 := r1
    obtain ⟨t2, r2⟩ := (show ∃ t, v.2 = Value.int e.2 t from r2)
    rw [← r1] at k1
    rcases keyIs_shape (k := Sum.inr e.1) (v := en.key) k1 with ⟨i, t, z, _⟩ | ⟨x, t, z, ek⟩
    · cases z
    · cases z
      exact ⟨e, t, t2, he1, by rw [hg, ek, k2, r2]⟩
  -- the heap of the sort
  have hob : (h'.push { cls := .type "list", data := .seq (as.map Value.ref).toArray }).get? h'.objs.size = some (seqObj "list" (as.map Value.ref).toArray 0) := Heap.get?_push_size _ rfl
  have ne0 : ∀ b o, h'.get? b = some o → b ≠ h'.objs.size := fun b o e => Nat.ne_of_lt (Heap.lt_size e)
  generalize hh2 : h'.push { cls := .type "list", data := .seq (as.map Value.ref).toArray } = h2 at hob ⊢
  have ka : ∀ b o, h'.get? b = some o → h2.get? b = some o := fun b o e => by rw [← hh2]; exact Heap.get?_push_of_some _ e
  obtain ⟨bs, hbs⟩ : ∃ bs : List Ent, bs = as.zip ks := ⟨_, rfl⟩
  have m1 : bs.map (·.1) = as := by rw [hbs]; exact List.map_fst_zip (by omega)
  have m2 : bs.map (·.2) = ks := by rw [hbs]; exact List.map_snd_zip (by omega)
  have idx : ∀ z ∈ bs, ∃ j : Nat, as[j]? = some z.1 ∧ ks[j]? = some z.2 := by
    intro z' hz'
    rw [hbs] at hz'
    obtain ⟨j, hj⟩ := List.mem_iff_getElem?.mp hz'
    exact ⟨j, List.getElem?_zip_eq_some.mp hj⟩
  have at_ : ∀ z ∈ bs, ∃ t1 t2 : Tok, h'.get? z.1 = some { cls := .type "tuple", data := .seq #[Value.str z.2.1 t1, Value.int z.2.2 t2] } := by
    intro z hz
    obtain ⟨j, j1, j2⟩ := idx z hz
    obtain ⟨e, t1, t2, he, hg⟩ := pr j z.1 j1
    rw [j2] at he
    cases he
    exact ⟨t1, t2, hg⟩
  have evs : as.map Value.ref = bs.map fun b => Value.ref b.1 := by rw [← m1, List.map_map] <;> rfl
  have lbs : bs.length = ks.length := by rw [← m2, List.length_map]
  have er : PySem.W.EachIs (fun v (b : Ent) => ∃ cs, Reads h2 v (encE b) cs ∧ h'.objs.size ∉ cs) (bs.map fun b => Value.ref b.1) bs := by
    have : ∀ cs : List Ent, (∀ b ∈ cs, b ∈ bs) → PySem.W.EachIs (fun v (b : Ent) => ∃ cs, Reads h2 v (encE b) cs ∧ h'.objs.size ∉ cs) (cs.map fun b => Value.ref b.1) cs := by
      intro cs
      induction cs with
      | nil => exact fun _ => .nil
      | cons c r ih =>
        intro h
        refine .cons ?_ (ih fun b m => h b (List.mem_cons_of_mem _ m))
        obtain ⟨t1, t2, g⟩ := at_ c (h c List.mem_cons_self)
        exact ⟨_, .tuple (ka _ _ g) rfl rfl (.cons (.str _ _) (.cons (.int _ _) .nil)), fun m => nomatch m⟩
    exact this bs fun _ m => m
  rw [evs] at hob
  refine PySem.W.list_sort_data (s := { s with heap := h2, toks := tk }) (bs := bs) (enc := encE) (R := fun v b => v = Value.ref b.1) hob (refs_each bs) er (PySem.W.AllAlike.of fun b b' => by simp [encE, PySem.W.alike, PySem.W.alikeAll]) (PySem.W.Sortable.tuples fun b => ⟨_, _, rfl⟩) (Nat.le_trans (by omega : bs.length ≤ 1000) (by decide)) (fun b _ => ?_) fun out lo eo => ?_
  · have : (encE b).depth ≤ 2 := by
      simp [encE, PyData.depth, PyData.depthAll]
    show X.A.units + 1 + 1 + _ < _
    omega
  · have eo := each_refs eo
    subst eo
    obtain ⟨L, hL⟩ : ∃ L, L = bs.mergeSort (PySem.W.dataLe false encE) := ⟨_, rfl⟩
    have hperm : L.Perm bs := by rw [hL]; exact List.mergeSort_perm bs (PySem.W.dataLe false encE)
    have hsort := sortE bs
    rw [← hL] at hsort ⊢
    obtain ⟨eF, heF⟩ := PyProof.Rows.sortedHeap_at (vs := bs.map fun b => Value.ref b.1) (out := (L.map fun b => Value.ref b.1).toArray) hob
    have kF : ∀ b o, b ≠ h'.objs.size → h2.get? b = some o → (sortedHeap h2 h'.objs.size (bs.map fun b => Value.ref b.1) (L.map fun b => Value.ref b.1).toArray).get? b = some o := fun b o hb e => (PyProof.Rows.sortedHeap_old hb (Heap.lt_size e)).trans e
    have kS : ∀ b o, s.heap.get? b = some o → (sortedHeap h2 h'.objs.size (bs.map fun b => Value.ref b.1) (L.map fun b => Value.ref b.1).toArray).get? b = some o := fun b o e => kF b o (ne0 _ _ (hk b o e)) (ka _ _ (hk b o e))
    generalize sortedHeap h2 h'.objs.size (bs.map fun b => Value.ref b.1) (L.map fun b => Value.ref b.1).toArray = h3 at heF kF kS ⊢
    show EP X pins σ Q (.ref h'.objs.size) { s with heap := h3, toks := tk }
    have I1 : Inv X pins σ H { s with heap := h3, toks := tk } := I.kept (t' := tk) kS
    have hn0 : H h'.objs.size = none := I.hok.fresh (Nat.le_of_lt hlt)
    have hlen : (L.map fun z => V.ref z.1).length ≤ sizeLine := by
      have e := hperm.length_eq
      rw [List.length_map, sizeLine_eq]
      omega
    have I2 : Inv X pins σ (upd H h'.objs.size (.lst (L.map fun z => V.ref z.1))) { s with heap := h3, toks := tk } :=
      I1.take (h' := h3) (t' := tk) (fun b ob _ e => e) (I.fpOk (Nat.le_of_lt hlt) hn0) (show ObjOk X.prog X.w _ _ _ (.lst _) from ⟨hlen, _, eF, vals_refs L, heF⟩)
    obtain ⟨H2, I3, g, qt⟩ := L2.DX.takeT (P := fun b vs => ∃ (j : Nat) (e : Str × Int), as[j]? = some b ∧ ks[j]? = some e ∧ vs = [.str e.1, .int e.2]) I as _ I2 nd fun b hb => by
      obtain ⟨j, hj⟩ := List.mem_iff_getElem?.mp hb
      obtain ⟨e, t1, t2, he, hg⟩ := pr j b hj
      have hbl : s.heap.objs.size ≤ b := Nat.le_of_lt (hG.above b hb)
      refine ⟨hbl, ?_, [.str e.1, .int e.2], ⟨j, e, hj, he, rfl⟩, fun H3 => ⟨(by rw [sizeLine_eq]; show 2 ≤ 16777216; omega), [Value.str e.1 t1, Value.int e.2 t2], .cons ⟨_, rfl⟩ (.cons ⟨_, rfl⟩ .nil), ⟨_, kF _ _ (ne0 _ _ hg) (ka _ _ hg), rfl, 0, rfl⟩⟩⟩
      rw [upd_ne (ne0 _ _ hg)]
      exact I.hok.fresh hbl
    have gr : Same H H2 := fun b o e => g b o (by rw [upd_ne (ne_of_none e hn0)]; exact e)
    refine ⟨.ref h'.objs.size, H2, I3, rfl, q H2 h'.objs.size L gr hn0 (by rw [← m2]; exact hperm.map _) hsort (g _ _ upd_same) fun z' hz' => ?_⟩
    obtain ⟨i, i1, i2⟩ := idx z' (hperm.mem_iff.mp hz')
    obtain ⟨vs, ⟨j, e, j1, j2, ev⟩, hH⟩ := qt z'.1 (List.mem_of_getElem? i1)
    have eij : i = j := (List.getElem?_inj (List.getElem?_eq_some_iff.mp i1).1 nd).mp (i1.trans j1.symm)
    subst eij
    have ee : e = z'.2 := Option.some.inj (j2.symm.trans i2)
    rw [ev, ee] at hH
    exact hH
end
/-! ### C.m(..), m a static method -/
structure StM (P : Program) (w : World) (K : PySem.W.Frag) (mg : Str → Option Value) (base : Heap) (k : Nat) (C : Addr) (m : Str) (ps : List Str) (sp : Sp) : Prop where
  ga : PySem.W.specialIn K (.ref C) "__getattribute__" = some (some (.builtin "type.__getattribute__"))
  ex : ∃ (mc : Value) (p f : Addr) (fd : FuncData) (rest : List Value), PySem.W.readsIn K C mc = true ∧ PySem.W.findCls K (.ref C) mc m = some (.get (.builtin "staticmethod.__get__") (.ref p) .none (.ref C)) ∧
    PySem.W.recIn K p "staticmethod" = some (.ref f :: rest) ∧ PySem.W.keepIn K (.ref f) = true ∧ FnG P w K mg base k f fd ps sp ∧ (∀ us : List Value, us.length = ps.length → bindArgs fd ⟨us, []⟩ = pure (ps.zip us))
section
variable {X : Cx} {k j : Nat} {C : Addr} {ps : List Str} {sp : Sp} {m : Str} {o e : Expr} {es : List Expr} {ta : TE} {t : TA} {pos apos : Pos}
def tSm (C : Addr) (sp : Sp) (ta : TE) (t : TA) : TE := fun σ H Q => ta σ H fun x H1 => x = .ref C ∧ t σ H1 fun vs H2 => sp vs H2 Q E0
theorem pe_sm {pl : Sem Bool} (he : PE X o ta) (M : StM X.prog X.w X.K X.mg X.base k C m ps sp) (hr : RoomG j X.A) (hk : k ≤ j) (ha : PA X (e :: es) t)
    (hst : starEach (e :: es) X.env = (false, eval e X.env) :: starEach es X.env := by rfl) (hpl : (backTo pos (starEach es X.env)).any (·.1) = false := by rfl)
    (ht : eval (.Call (.Attribute o m apos) (e :: es) [] pos) X.env = (do
      let ov ← eval o X.env
      standAt apos.atName
      let (f, first) ← holding [ov] (getMethod ov m pl)
      callWith pos f first (backTo pos (starEach (e :: es) X.env)) (backToKw pos (keywordEach [] X.env))) := by rfl) :
    PE X (.Call (.Attribute o m apos) (e :: es) [] pos) (tSm C sp ta t) := by
  obtain ⟨mc, p, f, fd, rest, h1, h2, h3, h4, F, b⟩ := M.ex
  refine ⟨fun pins s σ H Q I h => ?_⟩
  refine PySem.W.methodCall_KW (pl := pl) (thn (he.run pins s σ H _ I h) fun u s1 ⟨x, H1, I1, rx, ex, q⟩ => ?_) ht
  subst ex
  obtain rfl : u = Value.ref C := rx
  refine PySem.W.method_cls I1.kIn M.ga (PySem.W.cls_bind I1.kIn h1 h2 (wpAny_call (PySem.W.sm_get (s := { s1 with toks := s1.toks + 1 }) I1.kIn h3 (PySem.W.handed_on rfl ?_))))
  have I2 : Inv X pins σ H1 { s1 with toks := s1.toks + 1 } := I1.tok _
  refine PySem.W.callWith_K (first := []) (h₀ := X.base) I2.ok.mod.kin h4 (thn (ha.run pos pins _ σ H1 _ I2 q) fun us s2 ⟨vs, H2, I3, r, q2⟩ => ⟨I3.kIn, ?_⟩) hst hpl
  exact wpAny_call (codeAny_mono (run_at F (hr.mono hk) rfl (b us (by rw [← r.length]; exact F.len _ _ _ _ q2)) I3 r q2) fun r s' z => by
    rcases r with e | (v | _ | _ | _) <;> exact z)
end
end Lw

/-! ## Fm6 -/
set_option maxHeartbeats 4000000
/-! an __init__ of **parameters, called without any -/
namespace Lw
open PySem PySem.Spec PyProof.Rows L2
def FnN (P : Program) (w : World) (K : PySem.W.Frag) (mg : Str → Option Value) (base : Heap) (k : Nat) (f : Addr) (sp : Sp) : Prop :=
  ∀ (A : Around) (outer : List Env) (s : Shared) (H : Hp) (us : List Value) (vs : List V) (Q : VK), RoomG k A → Env0 P w K mg base A outer s H → Vals vs us → sp vs H Q E0 →
    codeAny (model P w) A (.call (.ref f) ⟨us, []⟩) (CR CX0 outer P w H s Q E0) s
section
variable {P : Program} {w : World} {K : PySem.W.Frag} {mg : Str → Option Value} {base : Heap} {k : Nat} {f : Addr} {fd : FuncData} {x qual pd : Str} {st : Stmt} {N ps : List Str} {sp : Sp}
theorem fn_kw0 (F : Fun K x qual st f fd) (S : FnScope N (ps ++ [pd]) (defScope st))
    (hb : ∀ us : List Value, us.length = ps.length → bindArgs fd ⟨us, []⟩ = ((alloc ({ cls := .type "dict", data := .dict #[] } : Obj) : Sem Addr) >>= fun d => pure (ps.zip us ++ [(pd, Value.ref d)])))
    (hbody : ∀ (cdv : Value) (A : Around) (outer : List Env) (s : Shared) (H : Hp) (vs : List V) (Q : VK), RoomG k (A.deeper (envOfC qual (defScope st) s.heap.objs.size f cdv)) → sp vs H Q E0 →
      ∃ t, PSs (cxOf CX0 P w K mg base N qual (defScope st) f cdv A outer s H E0).nox (defBody st) t ∧ t { nx := fun _ H' => Q .non H', rt := Q } (start N vs) H) :
    FnN P w K mg base (k + 1) f (fun vs H Q E => vs.length = ps.length ∧ ∀ d, H d = none → sp (vs ++ [V.ref d]) (upd H d (.dK [])) Q E0) := by
  obtain ⟨oc, od, kV, doc, pm, an, cdv, ct, osl, rfl, lk, hcd⟩ := F.ex
  intro A outer s H us vs Q hr e0 r ⟨hl, hq⟩
  have hn : H s.heap.objs.size = none := e0.hok.fresh (Nat.le_refl _)
  have hl1 : us.length = ps.length := by rw [← r.length]; exact hl
  refine StX.run_bnd (CX := CX0) (E := E0) lk hcd S hr.rm e0 (G := fun xs H2 => ∃ d, H d = none ∧ xs = vs ++ [V.ref d] ∧ H2 = upd H d (.dK [])) (fun A' Ex Q' h => ?_) fun s2 H2 xs ⟨d, hd, ex, eH⟩ hr' => ?_
  · rw [hb us hl1]
    refine wpAny_bind (wpAny_alloc (wpAny_pure ?_))
    have e1 := StX.env0_laid (u := .dK []) (o := ({ cls := .type "dict", data := .dict #[] } : Obj)) e0 (dk_empty _ (StX.env0_big e0))
    have un1 := StX.un_laid (fs := frs outer) (s := s) (o := ({ cls := .type "dict", data := .dict #[] } : Obj)) (u := .dK []) hn
    have z := h _ _ (vs ++ [V.ref s.heap.objs.size]) (us ++ [Value.ref s.heap.objs.size]) e1 un1 rfl (fun e s' z => z.elim) (r.append (.cons rfl .nil)) (by rw [List.length_append, List.length_append, hl] <;> rfl) ⟨_, hn, rfl, rfl⟩
    rw [List.zip_append hl1.symm] at z
    exact z
  · subst ex eH
    obtain ⟨t, ht, q⟩ := hbody cdv A outer s2 _ _ Q ⟨hr', hr.gd⟩ (hq d hd)
    exact ⟨t, ht.nox, q⟩
end
def tNew0 (C : Addr) (sp : Sp) : TE := fun σ H Q => ∀ x dx, H x = none → H dx = none → dx ≠ x → sp [.ref x] (upd (upd H dx (.own x)) x (.ins C dx [])) (fun v H2 => v = .non ∧ Q (.ref x) H2) E0
/-- a class that is made without arguments -/
structure Mk0 (P : Program) (w : World) (K : PySem.W.Frag) (mg : Str → Option Value) (base : Heap) (k : Nat) (x : Str) (C : Addr) (sp : Sp) : Prop where
  ex : ∃ f : Addr, Mk K C f ∧ FnN P w K mg base k f sp ∧ mg x = some (.ref C)
section
variable {X : Cx} {k j : Nat} {C : Addr} {sp : Sp} {x : Str} {p pos : Pos}
theorem pe_new0 (M : Mk0 X.prog X.w X.K X.mg X.base k x C sp) (hr : RoomG j X.A) (hk : k + 1 ≤ j) (hg : Gl X x) (hdb : (x == ("__debug__" : Str)) = false := by decide) : PE X (.Call (.Name x p) [] [] pos) (tNew0 C sp) := by
  obtain ⟨f, M, F, hm⟩ := M.ex
  refine ⟨fun pins s σ H Q I h => ?_⟩
  refine wpAny_Call_Name_kw (ld_glob I hg hm ?_ hdb)
  refine PySem.W.callWith_K0 I.kIn M.kp ?_
  have hq := h (s.heap.objs.size + 1) s.heap.objs.size (I.hok.fresh (Nat.le_succ _)) (I.hok.fresh (Nat.le_refl _)) (Nat.ne_of_lt (Nat.lt_succ_self _))
  have I2 := Inv.made (C := C) I
  have r2 : Vals [V.ref (s.heap.objs.size + 1)] [Value.ref (s.heap.objs.size + 1)] := .cons rfl .nil
  refine wpAny_call (make_map (f := f) I.kIn M.makes M.init (beq_iff_eq.mp M.fn) (codeAny_mono (F _ X.stack _ _ [Value.ref (s.heap.objs.size + 1)] _ _ ((hr.mono hk).make C [] []) (I2.env0.make C [] []) r2 hq) fun r s' hq' => ?_))
  cases r with
  | error e => exact False.elim hq'
  | ok fl =>
    cases fl with
    | ret u =>
      obtain ⟨v, H', I3, rv, ev, q3⟩ := I2.after hq'
      subst ev
      exact ⟨rv, ⟨V.ref (s.heap.objs.size + 1), H', I3, rfl, q3⟩⟩
    | next => exact False.elim hq'
    | brk => exact False.elim hq'
    | cont => exact False.elim hq'
end
end Lw

/-! ## LwS -/
set_option maxHeartbeats 4000000
/-! rules that hand on a new object as «what stood stands, and this is new» -/
namespace Lw
open PySem PySem.Spec PyProof.Rows L2
/-- a new object o, all that was tracked stands -/
def NewO (o : HO) (H : Hp) (Q : VK) : Prop := ∀ (p : Addr) (H' : Hp), H p = none → Same H H' → H' p = some o → Q (.ref p) H'
theorem NewO.to {o : HO} {H : Hp} {Q : VK} (h : NewO o H Q) : ∀ p, H p = none → Q (.ref p) (upd H p o) := fun p hp => h p _ hp (Same.new hp) upd_same
section
variable {X : Cx} {es : List Expr} {pos : Pos} {t : TA}
theorem OpR.conv {f : Value → Value → Sem Value} {r r' : R2} (h : OpR X f r) (c : ∀ x y H Q, r' x y H Q → r x y H Q) : OpR X f r' := fun pins s σ H x y v u Q I rx ry q => h pins s σ H x y v u Q I rx ry (c _ _ _ _ q)
theorem OpR.or {f : Value → Value → Sem Value} {r r' : R2} (h : OpR X f r) (h' : OpR X f r') : OpR X f (fun x y H Q => r x y H Q ∨ r' x y H Q) := fun pins s σ H x y v u Q I rx ry q => q.elim (h pins s σ H x y v u Q I rx ry) (h' pins s σ H x y v u Q I rx ry)
theorem CallR.conv {f : Value} {r r' : List V → Hp → VK → Prop} (h : CallR X f r) (c : ∀ xs H Q, r' xs H Q → r xs H Q) : CallR X f r' := fun pins s σ H xs us Q I rx q => h pins s σ H xs us Q I rx (c _ _ _ q)
theorem CallR.or {f : Value} {r r' : List V → Hp → VK → Prop} (h : CallR X f r) (h' : CallR X f r') : CallR X f (fun xs H Q => r xs H Q ∨ r' xs H Q) := fun pins s σ H xs us Q I rx q => q.elim (h pins s σ H xs us Q I rx) (h' pins s σ H xs us Q I rx)
theorem SlR.conv {r r' : V → Option Int → Option Int → Hp → VK → Prop} (h : SlR X r) (c : ∀ x l u H Q, r' x l u H Q → r x l u H Q) : SlR X r' := fun pins s σ H x v vl vu lo hi sl Q I rx hs p1 p2 q => h pins s σ H x v vl vu lo hi sl Q I rx hs p1 p2 (c _ _ _ _ _ q)
def tLstS (t : TA) : TE := fun σ H Q => t σ H fun xs H1 => xs.length ≤ sizeLine ∧ NewO (.lst xs) H1 Q
def tTupS (t : TA) : TE := fun σ H Q => t σ H fun xs H1 => xs.length ≤ sizeLine ∧ NewO (.tup xs) H1 Q
theorem PE.conv {e : Expr} {te te' : TE} (h : PE X e te) (c : ∀ σ H Q, te' σ H Q → ∃ R : VK, te σ H R ∧ ∀ v H', R v H' → Q v H') : PE X e te' := ⟨fun pins s σ H Q I q => by
  obtain ⟨R, h1, h2⟩ := c σ H Q q
  exact thn (h.run pins s σ H R I h1) fun u s1 ⟨v, H1, I1, r, k⟩ => ⟨v, H1, I1, r, h2 _ _ k⟩⟩
theorem pe_lstS (h : PA X es t) : PE X (.List es pos) (tLstS t) := ⟨fun pins s σ H Q I hq => wpAny_List_spliced (thn (h.run pos pins s σ H _ I hq) fun us s1 ⟨xs, H1, I1, r, z, q⟩ => by
  have hf : H1 s1.heap.objs.size = none := I1.hok.fresh (Nat.le_refl _)
  refine ⟨by rw [← r.length]; exact z, .ref s1.heap.objs.size, upd H1 s1.heap.objs.size (.lst xs), I1.laid (t' := s1.toks) (fun b u e => Heap.get?_push_of_some _ e) (Nat.le_refl _) ?_, rfl, q.to _ hf⟩
  exact ⟨z, us, 0, r, Heap.get?_push_size _ rfl⟩)⟩
theorem pe_tupS {x1} (h : PA X es t) : PE X (.Tuple es x1 pos) (tTupS t) := ⟨fun pins s σ H Q I hq => wpAny_Tuple_spliced (thn (h.run pos pins s σ H _ I hq) fun us s1 ⟨xs, H1, I1, r, z, q⟩ => by
  have hf : H1 s1.heap.objs.size = none := I1.hok.fresh (Nat.le_refl _)
  refine ⟨by rw [← r.length]; exact z, .ref s1.heap.objs.size, upd H1 s1.heap.objs.size (.tup xs), I1.laid (t' := s1.toks) (fun b u e => Heap.get?_push_of_some _ e) (Nat.le_refl _) ?_, rfl, q.to _ hf⟩
  exact ⟨z, us, r, ⟨_, Heap.get?_push_size _ rfl, rfl, _, rfl⟩⟩)⟩
/-- xs + ys -/
def rCatS : R2 := fun x y H Q => ∃ (a b : Addr) (xs ys : List V), x = .ref a ∧ y = .ref b ∧ H a = some (.lst xs) ∧ H b = some (.lst ys) ∧ xs.length + ys.length ≤ sizeLine ∧ NewO (.lst (xs ++ ys)) H Q
theorem op_catS : OpR X (binaryOp .Add) rCatS := OpR.conv op_cat fun x y H Q h => by
  obtain ⟨a, b, xs, ys, h1, h2, h3, h4, h5, h6⟩ := h
  exact ⟨a, b, xs, ys, h1, h2, h3, h4, h5, h6.to⟩
/-- xs * k -/
def rRepS : R2 := fun x y H Q => ∃ (a : Addr) (xs : List V) (k : Nat), x = .ref a ∧ y = .int (k : Int) ∧ H a = some (.lst xs) ∧ k ≤ 1000 ∧ xs.length * k ≤ sizeLine ∧ NewO (.lst (List.replicate k xs).flatten) H Q
theorem op_repS : OpR X (binaryOp .Mult) rRepS := OpR.conv op_rep fun x y H Q h => by
  obtain ⟨a, xs, k, h1, h2, h3, h4, h5, h6⟩ := h
  exact ⟨a, (k : Int), xs, h1, h2, h3, by omega, by omega, by simpa using h5, by simpa using h6.to⟩
/-- xs[a:b] -/
def rSlLS (K : PySem.W.Frag) : V → Option Int → Option Int → Hp → VK → Prop := fun x lo hi H Q => ∃ a xs, x = .ref a ∧ SqL K H a xs ∧ NewO (.lst (cutV xs lo hi)) H Q
theorem sl_listS : SlR X (rSlLS X.K) := SlR.conv sl_list fun x l u H Q ⟨a, xs, h1, h2, h3⟩ => ⟨a, xs, h1, h2, h3.to⟩
end
/-! ### lists of truths -/
theorem dp_bools {K : PySem.W.Frag} {H : Hp} : ∀ bs : List Bool, DpAll K H (bs.map V.bl) (bs.map PyData.bool)
  | [] => .nil
  | b :: bs => .cons (.bl b) (dp_bools bs)
theorem dp_ints {K : PySem.W.Frag} {H : Hp} : ∀ bs : List Int, DpAll K H (bs.map V.int) (bs.map PyData.int)
  | [] => .nil
  | b :: bs => .cons (.int b) (dp_ints bs)
theorem dpAll_rep {K : PySem.W.Frag} {H : Hp} {v : V} {d : PyData} (h : Dp K H v d) : ∀ n, DpAll K H (List.replicate n v) (List.replicate n d)
  | 0 => .nil
  | n + 1 => .cons h (dpAll_rep h n)
/-- == of what is the same -/
def rEqU (K : PySem.W.Frag) : R2 := fun x y H Q => rEq x y H Q ∨ rEqD K x y H Q ∨ rEqV K x y H Q
theorem op_eqU {X : Cx} {k : Nat} (hr : RoomG k X.A) : OpR X (compareOp .Eq) (rEqU X.K) := OpR.or op_eq (OpR.or (op_eqD hr.units) (op_eqV hr.units))
theorem eq_scal {v : V} {H : Hp} {Q : VK} (h : scal v v = true) (q : Q (.bl true) H) : rEq v v H Q := ⟨h, by rw [decide_eq_true rfl]; exact q⟩
end Lw

/-! ## FmA -/
set_option maxHeartbeats 1000000
namespace Lw
open PySem PySem.Spec PyProof.Rows L2
open Fm (cf Asc Nm)
abbrev s__terms_of : Stmt := topS 33
abbrev n__terms_of : List Str := ["factors", "symbol"]
theorem sc__terms_of : FnScope n__terms_of ["factors"] (defScope s__terms_of) := ⟨rfl, rfl, rfl, by decide +kernel, rfl, by decide +kernel, by decide +kernel⟩
abbrev s__symbols_of : Stmt := topS 34
abbrev n__symbols_of : List Str := ["terms", "symbol", "_"]
theorem sc__symbols_of : FnScope n__symbols_of ["terms"] (defScope s__symbols_of) := ⟨rfl, rfl, rfl, by decide +kernel, rfl, by decide +kernel, by decide +kernel⟩
abbrev Tms := Fm.Tm
theorem TupF.tp {H : Hp} {a : Addr} {xs : List V} (h : TupF H a xs) : Tp H a xs := by
  obtain ⟨o, _, h⟩ := h
  exact .inr ⟨o, h⟩
/-- a pair (symbol, factor) -/
def PairO (H : Hp) (p : Addr) (q : Str × Int) : Prop := H p = some (.tup [.str q.1, .int q.2])
def Prs (H : Hp) : List Addr → Tms → Prop := Paired (PairO H)
def TermsAt (H : Hp) (t : Addr) (ts : Tms) : Prop := ∃ ps : List Addr, TupF H t (ps.map V.ref) ∧ Prs H ps ts
def SymsAt (H : Hp) (u : Addr) (ts : Tms) : Prop := TupF H u (ts.map fun q => V.str q.1)
/-- the form with these terms -/
def FormAt (C : Addr) (H : Hp) (a : Addr) (ts : Tms) : Prop := ∃ dx t u, H a = some (.ins C dx [("terms", .ref t), ("symbols", .ref u)]) ∧ TermsAt H t ts ∧ SymsAt H u ts
theorem Prs.same {H H' : Hp} (s : Same H H') : ∀ {ps : List Addr} {ts : Tms}, Prs H ps ts → Prs H' ps ts
  | _, _, .nil => .nil
  | _, _, .cons h r => .cons (s _ _ h) (Prs.same s r)
theorem TermsAt.same {H H' : Hp} {t : Addr} {ts : Tms} (s : Same H H') (h : TermsAt H t ts) : TermsAt H' t ts := by
  obtain ⟨ps, h, r⟩ := h
  exact ⟨ps, h.same s, r.same s⟩
theorem FormAt.same {C : Addr} {H H' : Hp} {a : Addr} {ts : Tms} (s : Same H H') (h : FormAt C H a ts) : FormAt C H' a ts := by
  obtain ⟨dx, t, u, h, r, z⟩ := h
  exact ⟨dx, t, u, s _ _ h, r.same s, TupF.same s z⟩
theorem Prs.len {H : Hp} : ∀ {ps : List Addr} {ts : Tms}, Prs H ps ts → ps.length = ts.length
  | _, _, .nil => rfl
  | _, _, .cons _ r => congrArg Nat.succ (Prs.len r)
theorem Prs.get {H : Hp} : ∀ {ps : List Addr} {ts : Tms}, Prs H ps ts → ∀ {i : Nat} {x : V}, (ps.map V.ref)[i]? = some x → ∃ p q, x = .ref p ∧ ts[i]? = some q ∧ H p = some (.tup [.str q.1, .int q.2])
  | _, _, .nil, i, x, e => by simp at e
  | _, _, .cons (a := p) (b := q) h r, 0, x, e => by
    obtain rfl := Option.some.inj e
    exact ⟨p, q, rfl, rfl, h⟩
  | _, _, .cons h r, i + 1, x, e => Prs.get r (i := i) (by simpa using e)
theorem Prs.snoc {H : Hp} {p : Addr} {q : Str × Int} (h : H p = some (.tup [.str q.1, .int q.2])) : ∀ {ps : List Addr} {ts : Tms}, Prs H ps ts → Prs H (ps ++ [p]) (ts ++ [q])
  | _, _, .nil => .cons h .nil
  | _, _, .cons h' r => .cons h' (Prs.snoc h r)
/-- what a dict of texts and ints holds -/
theorem val_cf {kvs : Tms} {s : Str} (h : s ∈ kvs.map (·.1)) : valV (kvs.map entK) (Sum.inr s) = some (.int (cf kvs s)) := by
  induction kvs with
  | nil => cases h
  | cons p r ih =>
    obtain ⟨t, f⟩ := p
    rw [List.map_cons]
    by_cases e : t = s
    · subst e
      rw [valV_pos rfl, show cf ((t, f) :: r) t = f from if_pos rfl]
    · rw [valV_neg (fun z => e (Sum.inr.inj z)), ih ((List.mem_cons.mp h).elim (fun q => absurd q.symm e) id), show cf ((t, f) :: r) s = cf r s from if_neg e]
theorem val_none {kvs : Tms} {s : Str} (h : s ∉ kvs.map (·.1)) : valV (kvs.map entK) (Sum.inr s) = none := by
  induction kvs with
  | nil => rfl
  | cons p r ih =>
    obtain ⟨t, f⟩ := p
    rw [List.map_cons, valV_neg (fun z => h (by rw [← Sum.inr.inj z]; exact List.mem_cons_self)), ih fun q => h (List.mem_cons_of_mem _ q)]
theorem cf_nin {kvs : Tms} {s : Str} (h : s ∉ kvs.map (·.1)) : cf kvs s = 0 := Fm.cf_none fun p hp e => h (e ▸ List.mem_map_of_mem hp)
theorem cf_nodup {kvs : Tms} {s : Str} {f : Int} (hn : (kvs.map (·.1)).Nodup) (h : (s, f) ∈ kvs) : cf kvs s = f := by
  induction kvs with
  | nil => cases h
  | cons p r ih =>
    obtain ⟨t, g⟩ := p
    rw [List.map_cons, List.nodup_cons] at hn
    rcases List.mem_cons.mp h with e | h
    · cases e
      exact if_pos rfl
    · have : t ≠ s := fun e => hn.1 (by rw [e]; exact List.mem_map_of_mem (f := (·.1)) h)
      rw [show cf ((t, g) :: r) s = cf r s from if_neg this, ih hn.2 h]
/-- the terms of the sorted symbols -/
def tmOf (kvs : Tms) (ys : List Str) : Tms := (ys.map fun s => (s, cf kvs s)).filter fun q => !decide (q.2 = 0)
theorem tm_mem {kvs : Tms} {ys : List Str} {q : Str × Int} : q ∈ tmOf kvs ys ↔ q.1 ∈ ys ∧ q.2 = cf kvs q.1 ∧ q.2 ≠ 0 := by
  unfold tmOf
  rw [List.mem_filter, List.mem_map]
  constructor
  · rintro ⟨⟨s, hs, rfl⟩, h⟩
    exact ⟨hs, rfl, by simpa using h⟩
  · rintro ⟨h1, h2, h3⟩
    exact ⟨⟨q.1, h1, by rw [← h2]⟩, by simpa using h3⟩
theorem asc_of : ∀ {ts : Tms}, (ts.map (·.1)).Pairwise lt' → Asc ts
  | [], _ => trivial
  | p :: r, h => by
    rw [List.map_cons, List.pairwise_cons] at h
    exact ⟨fun q hq => h.1 _ (List.mem_map_of_mem hq), asc_of h.2⟩
theorem tm_asc {kvs : Tms} {ys : List Str} (h : ys.Pairwise lt') : ((tmOf kvs ys).map (·.1)).Pairwise lt' := by
  have e : (ys.map fun s => (s, cf kvs s)).map (·.1) = ys := by
    rw [List.map_map]
    exact (List.map_congr_left fun _ _ => rfl).trans (List.map_id ys)
  unfold tmOf
  have := (List.filter_sublist (p := fun q : Str × Int => !decide (q.2 = 0)) (l := ys.map fun s => (s, cf kvs s))).map (·.1)
  rw [e] at this
  exact h.sublist this
theorem tm_nm {kvs : Tms} {ys : List Str} (hp : ys.Perm (kvs.map (·.1))) (hs : sortedS ys = true) (hn : (kvs.map (·.1)).Nodup) : Nm (tmOf kvs ys) ∧ (∀ s, cf (tmOf kvs ys) s = cf kvs s) ∧ ∀ q ∈ tmOf kvs ys, q ∈ kvs := by
  have ha := sorted_asc hs (hp.nodup_iff.mpr hn)
  have nm : Nm (tmOf kvs ys) := ⟨asc_of (tm_asc ha), fun q hq => (tm_mem.mp hq).2.2⟩
  refine ⟨nm, fun s => ?_, fun q hq => ?_⟩
  · by_cases h : s ∈ kvs.map (·.1)
    · by_cases z : cf kvs s = 0
      · rw [z]
        exact Fm.cf_none fun p hp' e => by
          have := tm_mem.mp hp'
          rw [e, z] at this
          exact this.2.2 this.2.1
      · exact Fm.cf_mem nm.asc (tm_mem.mpr ⟨hp.mem_iff.mpr h, rfl, z⟩)
    · rw [cf_nin h]
      exact Fm.cf_none fun p hp' e => h (hp.mem_iff.mp (e ▸ (tm_mem.mp hp').1))
  · obtain ⟨h1, h2, h3⟩ := tm_mem.mp hq
    obtain ⟨⟨t, f⟩, hm, e⟩ := List.mem_map.mp (hp.mem_iff.mp h1)
    have := cf_nodup hn hm
    obtain ⟨s, g⟩ := q
    cases (show t = s from e)
    rw [show g = cf kvs t from h2, this]
    exact hm
def spTermsOf : Sp := fun vs H Q _ => ∃ (d : Addr) (kvs : Tms), vs = [.ref d] ∧ H d = some (.dK (kvs.map entK)) ∧ (kvs.map (·.1)).Nodup ∧ kvs.length < 64 ∧
  ∀ p H' ts, Same H H' → H p = none → TermsAt H' p ts → Nm ts → (∀ s, cf ts s = cf kvs s) → (∀ q ∈ ts, q ∈ kvs) → Q (.ref p) H'
def spSymsOf : Sp := fun vs H Q _ => ∃ (t : Addr) (ts : Tms), vs = [.ref t] ∧ TermsAt H t ts ∧ ts.length < 1000 ∧ ∀ p H', Same H H' → H p = none → SymsAt H' p ts → Q (.ref p) H'
section
variable {P : Program} {w : World} {K : PySem.W.Frag} {mg : Str → Option Value} {base : Heap}
theorem ok_terms_of {f : Addr} {fd : FuncData} (F : Fun K "_terms_of" "_terms_of" s__terms_of f fd) (T : Ta mg) : FnG P w K mg base 1 f fd ["factors"] spTermsOf := by
  refine okG F sc__terms_of (fun vs H Q E h => ?_) (fun cdv A outer s H vs Q hr h => ?_)
  · obtain ⟨d, kvs, rfl, _⟩ := h
    rfl
  · obtain ⟨d, kvs, rfl, hd, hn, hl, k⟩ := h
    refine ⟨_, (pss_one (ps_ret (pe_callTy call_tupleF (by rfl) T.b_tuple (by decide +kernel) (pa_cons (pe_lc (own := [("symbol", 1)]) (g := gName 1) rfl sc__terms_of.nd (pi_list (pe_callB (call_sortedD (by rfl)) (by rfl) T.b_sorted (by decide +kernel) (pa_cons (pv 0) pa_nil))) (blkOk_by (own := [("symbol", 1)]) (N := n__terms_of) (sc := defScope s__terms_of) (by decide +kernel)) (fun _ _ _ _ _ => pg_name (i := 1) sc__terms_of.nd rfl (Or.inl rfl)) (fun _ _ _ _ _ => (pts_one (pt_cmpR op_ne (pe_dget (hu_of hr.rm) (pv 0) (pv 1) (fun _ _ => rfl)) pe_int (nomark _)))) (fun _ _ _ _ _ => (pe_tupS (pa_cons (pv 1) (pa_cons (pe_dget (hu_of hr.rm) (pv 0) (pv 1) (fun _ _ => rfl)) pa_nil))))) pa_nil)))), ?_⟩
    refine ⟨_, rfl, d, kvs.map entK, kvs.map (·.1), rfl, .inl hd, by rw [List.map_map, List.map_map] <;> rfl, by rw [List.length_map]; exact hl, fun ys p hp hs hnp => ?_⟩
    have s1 : Same H (upd H p (.lst (ys.map V.str))) := Same.new hnp
    generalize h1 : upd H p (.lst (ys.map V.str)) = H1 at s1 ⊢
    have hp1 : H1 p = some (.lst (ys.map V.str)) := by rw [← h1]; exact upd_same
    have hd1 := s1 _ _ hd
    have ly : ys.length < 64 := by rw [hp.length_eq, List.length_map]; exact hl
    refine ⟨p, rfl, ⟨_, SqL.of hp1⟩, fun D hD => lc_it walk_list (fun j H' => Same H1 H' ∧ ∃ ps, H' D = some (.lst (ps.map V.ref)) ∧ Prs H' ps (tmOf kvs (ys.take j))) ⟨Same.new hD, [], upd_same, .nil⟩ (fun j H' _ ⟨s', _⟩ => SqL.of (s' _ _ hp1)) (fun j x H2 H3 hj inv y => ?_) fun H2 inv => ?_⟩
    · obtain ⟨s2, ps, hD2, hps⟩ := inv
      obtain ⟨rfl, hx⟩ := y
      rw [List.getElem?_map] at hx
      obtain ⟨e, he, rfl⟩ := Option.map_eq_some_iff.mp hx
      have tk : ys.take (j + 1) = ys.take j ++ [e] := by
        rw [List.take_add_one, he]
        rfl
      have hd2 := s2 _ _ hd1
      have mem : e ∈ kvs.map (·.1) := hp.mem_iff.mp (List.mem_of_getElem? he)
      have vg := val_cf mem
      have lps : ps.length ≤ j := by
        rw [hps.len]
        exact Nat.le_trans (List.length_filter_le _ _) (by rw [List.length_map]; exact List.length_take_le _ _)
      have jl : j < 64 := by
        rw [List.length_map] at hj
        omega
      refine ⟨rfl, _, rfl, _, rfl, d, .int (cf kvs e), rfl, ?_, rfl, _, rfl, ?_⟩
      · rw [← vg]
        exact DGet.k (k := Sum.inr e) hd2
      · refine ite2 (fun hb => ?_) fun hb => ⟨s2, ps, hD2, ?_⟩
        · have nz : cf kvs e ≠ 0 := by simpa using hb
          refine ⟨_, rfl, _, rfl, _, rfl, d, .int (cf kvs e), rfl, ?_, (by show 2 ≤ sizeLine; decide), fun p H4 n4 s4 h4 => ⟨_, s4 _ _ hD2, ?_, fun b o q => ?_, ps ++ [p], ?_, ?_⟩⟩
          · rw [← vg]
            exact DGet.k (k := Sum.inr e) hd2
          · rw [List.length_map]
            exact Nat.lt_of_le_of_lt (show ps.length ≤ 1000 by omega) (by decide)
          · rw [upd_ne (ne_of_none q hD)]
            exact s4 _ _ (s2 _ _ q)
          · rw [upd_same, List.map_append]
            rfl
          · have nD : ∀ b z, H4 b = some (.tup z) → upd H4 D (.lst (ps.map V.ref ++ [V.ref p])) b = some (.tup z) := fun b z q => by
              rw [upd_ne (fun e => by rw [e, s4 _ _ hD2] at q; cases q)]
              exact q
            have up2 : ∀ {qs : List Addr} {ts : Tms}, Prs H3 qs ts → Prs (upd H4 D (.lst (ps.map V.ref ++ [V.ref p]))) qs ts := by
              intro qs ts r
              induction r with
              | nil => exact .nil
              | cons h r ih => exact .cons (nD _ _ (s4 _ _ h)) ih
            have e2 : tmOf kvs (ys.take (j + 1)) = tmOf kvs (ys.take j) ++ [(e, cf kvs e)] := by
              unfold tmOf
              rw [tk, List.map_append, List.filter_append, List.map_cons, List.map_nil, List.filter_cons_of_pos (by simpa using nz)]
              rfl
            rw [e2]
            exact (up2 hps).snoc (nD _ _ h4)
        · have z : cf kvs e = 0 := by simpa using hb
          have e2 : tmOf kvs (ys.take (j + 1)) = tmOf kvs (ys.take j) := by
            unfold tmOf
            rw [tk, List.map_append, List.filter_append, List.map_cons, List.map_nil, List.filter_cons_of_neg (by simpa using z), List.filter_nil, List.append_nil]
          rw [e2]
          exact hps
    · obtain ⟨s2, ps, hD2, hps⟩ := inv
      rw [List.length_map, List.take_length] at hps
      obtain ⟨nm, hc, hq⟩ := tm_nm hp hs hn
      refine ⟨D, _, rfl, SqL.of hD2, fun l H' hl' s' ht => ?_⟩
      exact k l H' _ (s1.trans (s2.trans s')) ((s1.trans s2).free hl') ⟨ps, ht, hps.same s'⟩ nm hc hq
theorem ok_symbols_of {f : Addr} {fd : FuncData} (F : Fun K "_symbols_of" "_symbols_of" s__symbols_of f fd) (T : Ta mg) : FnG P w K mg base 1 f fd ["terms"] spSymsOf := by
  refine okG F sc__symbols_of (fun vs H Q E h => ?_) (fun cdv A outer s H vs Q hr h => ?_)
  · obtain ⟨t, ts, rfl, _⟩ := h
    rfl
  · obtain ⟨t, ts, rfl, ⟨ps, ht, hp⟩, hl, k⟩ := h
    refine ⟨_, (pss_one (ps_ret (pe_callTy call_tupleF (by rfl) T.b_tuple (by decide +kernel) (pa_cons (pe_lc (own := [("symbol", 1), ("_", 2)]) (g := gTup K 2 (gCons (gName 1) (gCons (gName 2) gNil))) (tt := tYes) rfl sc__symbols_of.nd (pi_tup (pv 0)) (blkOk_by (own := [("symbol", 1), ("_", 2)]) (N := n__symbols_of) (sc := defScope s__symbols_of) (by decide +kernel)) (fun _ _ _ _ _ => pg_tup rfl (pgs_cons (pg_name (i := 1) sc__symbols_of.nd rfl (Or.inl rfl) (Or.inr rfl)) (pgs_cons (pg_name (i := 2) sc__symbols_of.nd rfl (Or.inl rfl) (Or.inr rfl)) pgs_nil))) (fun _ _ _ _ _ => pts_nil) (fun _ _ _ _ _ => (pv 1))) pa_nil)))), ?_⟩
    have lps := hp.len
    refine ⟨_, rfl, t, rfl, ⟨_, ht.sq⟩, fun D hD => lc_fn walk_tup (fun i => .str ((ts.map (·.1)).getD i Str.empty)) (by rw [List.length_map]; omega) hD (fun H' s' => (ht.same s').sq) (fun i x H2 H3 Q' hi s2 y kq => ?_) fun H2 s2 d => ?_⟩
    · obtain ⟨rfl, hx⟩ := y
      obtain ⟨p, q, rfl, hq, hpq⟩ := hp.get hx
      have := kq _ (Same.refl _)
      have e : (ts.map (·.1)).getD i Str.empty = q.1 := by rw [List.getD_eq_getElem?_getD, List.getElem?_map, hq] <;> rfl
      rw [e] at this
      exact ⟨p, _, rfl, SqT.of (s2 _ _ hpq), rfl, _, _, rfl, _, _, rfl, rfl, rfl, _, rfl, this⟩
    · have e : (List.range (ps.map V.ref).length).map (fun i => V.str ((ts.map (·.1)).getD i Str.empty)) = ts.map fun q => V.str q.1 := by
        rw [List.length_map, lps]
        apply List.ext_getElem?
        intro i
        rw [List.getElem?_map, List.getElem?_map]
        by_cases hi : i < ts.length
        · rw [List.getElem?_range hi, List.getElem?_eq_getElem hi]
          simp [List.getD_eq_getElem?_getD, hi]
        · rw [List.getElem?_eq_none (by simp; omega), List.getElem?_eq_none (by omega)]
          rfl
      rw [e] at d
      exact ⟨D, _, rfl, SqL.of d, fun l H' hl' s' hf => k l H' (s2.trans s') (s2.free hl') hf⟩
end
end Lw

/-! ## Fn1 -/
set_option maxHeartbeats 4000000
/-! own == and !=, repr of own objects, keywords -/
namespace Lw
open PySem PySem.W PySem.Spec PySem.Calls PyProof.Rows Builtin
section
variable {prog : Program} {w : World} {M : Model} {A : Around} {E : Value → Shared → Prop} {s : Shared} {K : Frag} {x C f L : Addr} {ox : Obj} {od : Option Obj} {h₀ : Heap} {m : Str → Option Value} {b tb : Value}
theorem ifBoundB_Lw {name : Str} {id : String} {args : List Value} {Q : Option Value → Shared → Prop} (X : K.In s.heap) (I : InstAt s.heap x ox C od) (hs : findIn K (.ref C) name = some (some (.builtin id)))
    (hb : ∀ self, bindSpecial (.builtin id) self = pure (.builtin id, [self])) (h : wpAny M A (call (.builtin id) (.ref x :: args)) (fun v => Q (some v)) E s) : wpAny M A (callSpecialIfBound? (.ref x) name args) Q E s := by
  simp only [callSpecialIfBound?, bindSpecialIfBound?]
  refine wpAny_holding (wpAny_bind (wpAny_bind (wpAny_bind (I.type.here ((looks_findIn X hs).here ?_)))))
  refine wpAny_bind (wpAny_askSetting (wpAny_ite ?_))
  have fin : wpAny M A (call (.builtin id) ([.ref x] ++ args) >>= fun v => pure (some v)) Q E s := wpAny_bind (wpAny_mono h (fun v s' h' => wpAny_pure h') fun _ _ h' => h')
  split
  · exact wpAny_bind ((Looks.of_pure (hb _)).here (wpAny_pure (by exact fin)))
  · exact wpAny_tryCatch (wpAny_bind ((Looks.of_pure (hb _)).here (wpAny_pure (by exact fin))))
def NeBack (Q : Value → Shared → Prop) (v : Value) (s' : Shared) : Prop := ∃ c, v = .bool c ∧ Q (.bool (!c)) s'
theorem objNe_Lw {Q : Value → Shared → Prop} (hu : A.in1.units < cLine) (X : K.In s.heap) (I : InstAt s.heap x ox C od) (hm : mroIn K C (.type "object") = some true) (he : findIn K (.ref C) "__eq__" = some (some (.ref f))) (hf : isFn K (.ref f) = true)
    (h : wpAny (model prog w) A.in1 (call (.ref f) [.ref x, b]) (NeBack Q) E s) : wpAny (model prog w) A (call (.builtin "object.__ne__") [.ref x, b]) Q E s := by
  refine wpAny_call (codeAny_call_builtin PySem.F.cmp_object.ne.plain PySem.F.cmpEntry_ne (check_slot (i := "object.__ne__") (owner := "object") (n := "__ne__") (by decide +kernel) (by decide +kernel) (I.type.andThen (looks_mroIn X hm)) (PySem.F.cmpArgs_ne _ _) ?_))
  unfold Builtin.«object.__ne__»
  repeat (first
    | with_reducible refine wpAny_cRoomFor hu ?_
    | (refine wpAny_bind (m := callSpecialIfBound? (.ref x) (Str.ofString "__eq__") [b])
        (ifBound_K X I he hf (wpAny_mono h (fun r s' hr => by
          obtain ⟨b, rfl, hq⟩ := hr
          repeat (first | exact hq | exact wpAny_pure hq | exact wpAny_truthy_bool hq | (refine wpAny_bind (m := truthy (.bool _)) (wpAny_truthy_bool ?_)) | wp_step)) fun _ _ e => e)))
    | wp_step)
theorem ne_Lw {Q : Value → Shared → Prop} (hu : A.units < cLine) (hu1 : A.in1.units < cLine) (F : Fr h₀ L s.heap m) (X₀ : K.In h₀) (I : InstAt s.heap x ox C od) (hb : Looks (model prog w) s.heap (typeOf b) tb) (hn : notFirst K C tb = true)
    (hs : findIn K (.ref C) "__ne__" = some (some (.builtin "object.__ne__"))) (hm : mroIn K C (.type "object") = some true) (he : findIn K (.ref C) "__eq__" = some (some (.ref f))) (hf : isFn K (.ref f) = true)
    (h : wpAny (model prog w) A.in1 (call (.ref f) [.ref x, b]) (NeBack Q) E s) : wpAny (model prog w) A (richCompare .NotEq (.ref x) b) Q E s := by
  have X := X₀.keeps F.keep
  have one : wpAny (model prog w) A (tryCompare (.ref x) (cmpInfo .NotEq).2.1 b) (fun r s' => ∃ v, r = some v ∧ Q v s') E s := by
    unfold tryCompare
    refine wpAny_bind (ifBoundB_Lw X I hs PySem.F.cmp_object.ne.bind (objNe_Lw hu1 X I hm he hf (wpAny_mono h (fun v s' hv => ?_) fun _ _ e => e)))
    obtain ⟨c, rfl, q⟩ := hv
    exact ⟨c, rfl, wpAny_pure ⟨_, rfl, q⟩⟩
  unfold richCompare
  simp only [oneThing_ref]
  refine wpAny_holding (wpAny_bind (wpAny_cRoomFor hu ?_))
  refine wpAny_bind (I.type.here (wpAny_bind (hb.here ?_)))
  split
  · rename_i q
    have e : subIn K tb (.ref C) = some false := by
      rcases Bool.or_eq_true_iff.mp hn with e | e
      · rw [beq_iff_eq.mp e] at q; simp at q
      · exact beq_iff_eq.mp e
    refine wpAny_bind ((looks_subIn X e).here ?_)
    simp only [Bool.false_eq_true, if_false]
    refine wpAny_bind (wpAny_mono one (fun r s' z => ?_) fun _ _ e => e)
    obtain ⟨v, rfl, hq⟩ := z
    exact wpAny_pure hq
  · refine wpAny_bind (wpAny_pure ?_)
    simp only [Bool.false_eq_true, if_false]
    refine wpAny_bind (wpAny_mono one (fun r s' z => ?_) fun _ _ e => e)
    obtain ⟨v, rfl, hq⟩ := z
    exact wpAny_pure hq
end
end Lw
namespace Lw
open PySem PySem.Spec PyProof.Rows L2
/-- what the classes say to == -/
structure FeQ (K : PySem.W.Frag) (C : Addr) : Prop where
  str : PySem.W.subIn K (.type "str") (.ref C) = some false
  int : PySem.W.subIn K (.type "int") (.ref C) = some false
  ne : PySem.W.findIn K (.ref C) "__ne__" = some (some (.builtin "object.__ne__"))
  obj : PySem.W.mroIn K C (.type "object") = some true
  kstr : PySem.W.kitOne K (.type "str") (.ref C) = some false
  kint : PySem.W.kitOne K (.type "int") (.ref C) = some false
section
variable {X : Cx} {k j : Nat} {C : Addr} {ps : List Str} {sp : Sp}
/-- what an object may be held against: one of its class, a text, an int -/
inductive Oth (C : Addr) (H : Hp) : V → Prop
  | own {a : Addr} (h : Is C H a) : Oth C H (.ref a)
  | str (z : Str) : Oth C H (.str z)
  | int (i : Int) : Oth C H (.int i)
def rEqO (C : Addr) (sp : Sp) : R2 := fun x y H Q => ∃ a, x = .ref a ∧ Is C H a ∧ Oth C H y ∧ sp [x, y] H Q E0
def rNeO (C : Addr) (sp : Sp) : R2 := fun x y H Q => ∃ a, x = .ref a ∧ Is C H a ∧ Oth C H y ∧ sp [x, y] H (fun v H' => ∃ b, v = .bl b ∧ Q (.bl (!b)) H') E0
theorem oth_looks {pins : List (Addr × Obj)} {σ : L2.St} {H : Hp} {s : Shared} {y : V} {u : Value} (I : Inv X pins σ H s) (q : FeQ X.K C) (h : Oth C H y) (r : RelV y u) : ∃ tb, PySem.W.Looks (model X.prog X.w) s.heap (typeOf u) tb ∧ PySem.W.notFirst X.K C tb = true := by
  cases h with
  | own h =>
    cases r
    obtain ⟨ox, od, J⟩ := is_inst I h
    exact ⟨_, J.type, by unfold PySem.W.notFirst; simp⟩
  | str z =>
    obtain ⟨t, rfl⟩ := r
    exact ⟨.type "str", PySem.W.Looks.of_pure rfl, by unfold PySem.W.notFirst; rw [q.str]; simp⟩
  | int i =>
    obtain ⟨t, rfl⟩ := r
    exact ⟨.type "int", PySem.W.Looks.of_pure rfl, by unfold PySem.W.notFirst; rw [q.int]; simp⟩
theorem op_eq_own (M : Mt X.prog X.w X.K X.mg X.base k C "__eq__" ps sp) (hr : RoomG j X.A) (hk : k ≤ j) (q : FeQ X.K C) : OpR X (compareOp .Eq) (rEqO C sp) := by
  obtain ⟨f, fd, F, hm, b, _⟩ := M.ex
  intro pins s σ H x y v u Q I rx ry hq
  obtain ⟨a, rfl, ha, hy, h⟩ := hq
  cases rx
  obtain ⟨ox, od, J⟩ := is_inst I ha
  obtain ⟨m, hF⟩ := I.fr
  obtain ⟨tb, l, n⟩ := oth_looks I q hy ry
  have hu : X.A.units < cLine := Nat.lt_of_le_of_lt (Nat.le_add_right _ _) hr.units
  exact PySem.W.cmp_ofEq (PySem.W.cmp_K hu hF I.ok.mod.kin J l n hm.at_ hm.fn (call_bin (vs := [V.ref a, y]) (us := [Value.ref a, u]) F (hr.mono hk) (b _ (F.len _ _ _ _ h)) I (.cons rfl (.cons ry .nil)) h))
theorem op_ne_own (M : Mt X.prog X.w X.K X.mg X.base k C "__eq__" ps sp) (hr : RoomG j X.A) (hk : k + 1 ≤ j) (q : FeQ X.K C) : OpR X (compareOp .NotEq) (rNeO C sp) := by
  obtain ⟨f, fd, F, hm, b, _⟩ := M.ex
  intro pins s σ H x y v u Q I rx ry hq
  obtain ⟨a, rfl, ha, hy, h⟩ := hq
  cases rx
  obtain ⟨ox, od, J⟩ := is_inst I ha
  obtain ⟨m, hF⟩ := I.fr
  obtain ⟨tb, l, n⟩ := oth_looks I q hy ry
  have hu : X.A.units < cLine := Nat.lt_of_le_of_lt (Nat.le_add_right _ _) hr.units
  have hr1 : RoomG k X.A.in1 := (hr.mono hk).in1
  have hu1 : X.A.in1.units < cLine := Nat.lt_of_le_of_lt (Nat.le_add_right _ _) hr1.units
  refine PySem.W.cmp_ofNotEq (ne_Lw hu hu1 hF I.ok.mod.kin J l n q.ne q.obj hm.at_ hm.fn (wpAny_call (codeAny_mono (run_at (vs := [V.ref a, y]) (us := [Value.ref a, u]) F hr1 rfl (b _ (F.len _ _ _ _ h)) I (.cons rfl (.cons ry .nil)) h) fun r s' z => ?_)))
  cases r with
  | error e => exact z
  | ok fl =>
    cases fl with
    | ret v =>
      obtain ⟨y, H', I', ry, c, rfl, q⟩ := z
      cases ry
      exact ⟨c, rfl, V.bl (!c), H', I', rfl, q⟩
    | next => exact z
    | brk => exact z
    | cont => exact z
/-- repr(a) by the own __repr__ -/
theorem call_reprO (M : Mt X.prog X.w X.K X.mg X.base k C "__repr__" ps sp) (hr : RoomG j X.A) (hk : k + 1 ≤ j) : CallR X (.builtin "repr") (rStrO C sp) := by
  obtain ⟨f, fd, F, hm, b, _⟩ := M.ex
  intro pins s σ H xs us Q I r hq
  obtain ⟨a, rfl, ha, h⟩ := hq
  obtain ⟨u, rfl, rx⟩ := vals1 r
  cases rx
  obtain ⟨ox, od, J⟩ := is_inst I ha
  obtain ⟨m, hF⟩ := I.fr
  have hr1 : RoomG k X.A.in1 := (hr.mono hk).in1
  have hu1 : X.A.in1.units < cLine := Nat.lt_of_le_of_lt (Nat.le_add_right _ _) hr1.units
  refine PySem.W.repr_K hu1 hF I.ok.mod.kin J hm.at_ hm.fn (wpAny_call (codeAny_mono (run_at (vs := [V.ref a]) (us := [Value.ref a]) F hr1 rfl (b _ (F.len _ _ _ _ h)) I (.cons rfl .nil) h) fun r s' z => ?_))
  cases r with
  | error e => exact z
  | ok fl =>
    cases fl with
    | ret v =>
      obtain ⟨y, H', I', ry, ⟨zz, rfl⟩, q⟩ := z
      obtain ⟨t, rfl⟩ := ry
      exact ⟨V.str zz, H', I', ⟨t, rfl⟩, q⟩
    | next => exact z
    | brk => exact z
    | cont => exact z
end
end Lw

/-! ## Fn2 -/
set_option maxHeartbeats 4000000
/-! keywords: an __init__ of **parameters, a static method -/
namespace Lw
open PySem PySem.Spec PyProof.Rows L2 PySem.W
section
variable {prog : Program} {w : World} {A : Around} {E : Value → Shared → Prop} {d : Addr}
theorem set_kw {s : Shared} {es : List DictEntry} {n : Nat} {k : Str} {v : Value} {Q : Unit → Shared → Prop} (D : s.heap.get? d = some (dictOf es n))
    (hs : ∀ e ∈ es, e.key.isStr k = false) (hr : ∀ e ∈ es, e.refKey = false)
    (h : ∀ h' : Heap, h'.get? d = some (dictOf (es ++ [⟨PyData.keyHash w.params k, .str k s.toks, v⟩]) (n + 1)) → (∀ b o, b ≠ d → s.heap.get? b = some o → h'.get? b = some o) → h'.objs.size = s.heap.objs.size → Q () { s with heap := h', toks := s.toks + 1 }) :
    wpAny (model prog w) A (nsSet d k v) Q E s := by
  have e1 : es.any (·.key.isStr k) = false := by
    cases q : es.any (·.key.isStr k) with
    | false => rfl
    | true => obtain ⟨e, he, z⟩ := List.any_eq_true.mp q; rw [hs e he] at z; cases z
  have e2 : es.any (·.refKey) = false := by
    cases q : es.any (·.refKey) with
    | false => rfl
    | true => obtain ⟨e, he, z⟩ := List.any_eq_true.mp q; rw [hr e he] at z; cases z
  have e : Obj.putName k (PyData.keyHash w.params k) (.str k s.toks) v (dictOf es n) = dictOf (es ++ [⟨PyData.keyHash w.params k, .str k s.toks, v⟩]) (n + 1) := by
    rw [putName_dict, putL_new hs]
    show dictOf _ (if es.any (·.key.isStr k) then n else n + 1) = _
    rw [e1, if_neg Bool.false_ne_true]
  have c : aRefKeyMayBeTheName k es.toArray = false := by
    rw [aRefKeyMayBeTheName_at, ← Array.any_toList, ← Array.any_toList]
    show (!es.any (·.key.isStr k) && es.any (·.refKey)) = false
    rw [e2, Bool.and_false]
  have g := Heap.get?_update_self (Obj.putName k (PyData.keyHash w.params k) (.str k s.toks) v) D (by rw [e]; rfl)
  rw [e] at g
  unfold nsSet
  refine wpAny_bind (wpAny_bind (wpAny_askSetting (wpAny_pure (wpAny_bind (wpAny_mkText (wpAny_bind (wpAny_loadPart D ?_)))))))
  dsimp only
  rw [c]
  exact wpAny_updatePart D (h _ g (fun b o hb q => (Heap.get?_update_other _ _ (Ne.symm hb)).trans q) (Heap.size_update _ _ _))
theorem fill_kw {Q : PUnit → Shared → Prop} : ∀ (ex : List (Str × Value)) (s : Shared) (es : List DictEntry) (n : Nat), s.heap.get? d = some (dictOf es n) →
    (∀ e ∈ es, ∀ x ∈ ex, e.key.isStr x.1 = false) → (∀ e ∈ es, e.refKey = false) → (ex.map (·.1)).Nodup →
    (∀ h' : Heap, h'.get? d = some (dictOf (es ++ kwEs w.params s.toks ex) (n + ex.length)) → (∀ b o, b ≠ d → s.heap.get? b = some o → h'.get? b = some o) → h'.objs.size = s.heap.objs.size → Q ⟨⟩ { s with heap := h', toks := s.toks + ex.length }) →
    wpAny (model prog w) A (forIn ex PUnit.unit fun x _ => (nsSet d x.1 x.2 >>= fun _ => pure (ForInStep.yield PUnit.unit))) Q E s
  | [], s, es, n, D, _, _, _, h => by
    rw [List.forIn_nil]
    refine wpAny_pure (h s.heap ?_ (fun _ _ _ q => q) rfl)
    show s.heap.get? d = some (dictOf (es ++ []) n)
    rw [List.append_nil]
    exact D
  | x :: r, s, es, n, D, hs, hr, hn, h => by
    obtain ⟨hn1, hn2⟩ := List.nodup_cons.mp (show (x.1 :: r.map (·.1)).Nodup from hn)
    rw [List.forIn_cons]
    refine wpAny_bind (wpAny_bind (set_kw D (fun e he => hs e he x (.head _)) hr fun h' D' k1 z1 => wpAny_pure ?_))
    show wpAny (model prog w) A (forIn r PUnit.unit fun x _ => (nsSet d x.1 x.2 >>= fun _ => pure (ForInStep.yield PUnit.unit))) Q E { s with heap := h', toks := s.toks + 1 }
    refine fill_kw r { s with heap := h', toks := s.toks + 1 } _ _ D' (fun e he y hy => ?_) (fun e he => ?_) hn2 fun h'' D'' k2 z2 => ?_
    · rcases List.mem_append.mp he with he | he
      · exact hs e he y (.tail _ hy)
      · obtain rfl := List.mem_singleton.mp he
        show (x.1 == y.1) = false
        exact beq_eq_false_iff_ne.mpr fun q => hn1 (by rw [q]; exact List.mem_map_of_mem hy)
    · rcases List.mem_append.mp he with he | he
      · exact hr e he
      · obtain rfl := List.mem_singleton.mp he
        rfl
    · have t1 : s.toks + 1 + r.length = s.toks + (r.length + 1) := by omega
      have t2 : n + 1 + r.length = n + (r.length + 1) := by omega
      show Q ⟨⟩ { s with heap := h'', toks := s.toks + 1 + r.length }
      rw [t1]
      refine h h'' ?_ (fun b o hb q => k2 b o hb (k1 b o hb q)) (z2.trans z1)
      rw [t2, List.append_assoc] at D''
      exact D''
end
theorem kw_pairs (prog : Program) (w : World) : ∀ (ex : List (Str × Value)) (t : Tok), Pairs (mixKind prog w) (kwEs w.params t ex) (ex.map fun p => ((Sum.inr p.1 : Key), p.2))
  | [], _ => Pairs.nil
  | x :: r, t => Pairs.cons (mixKind_str prog w x.1 t) rfl (kw_pairs prog w r (t + 1))
theorem kw_dictOf (prog : Program) (w : World) {h : Heap} {d : Addr} {ex : List (Str × Value)} {t : Tok} {n : Nat} (D : h.get? d = some (dictOf (kwEs w.params t ex) n)) (hn : (ex.map (·.1)).Nodup) :
    h.DictOf (mixKind prog w) d (ex.map fun p => ((Sum.inr p.1 : Key), p.2)) :=
  ⟨_, (kwEs w.params t ex).toArray, n, D, ⟨rfl, rfl, rfl⟩, rfl, fun e he => by
    obtain ⟨k, u, hk, hh⟩ := kwEs_key ex t e (List.mem_toArray.mp he)
    exact ⟨Sum.inr k, by rw [hk]; exact mixKind_str prog w k u, hh.trans rfl⟩, by
    show Pairs (mixKind prog w) (kwEs w.params t ex).toArray.toList _
    rw [List.toList_toArray]
    exact kw_pairs prog w ex t, by
    rw [List.map_map]
    have : (ex.map ((fun p : Key × Value => p.1) ∘ fun p => ((Sum.inr p.1 : Key), p.2))) = (ex.map (·.1)).map (Sum.inr : Str → Key) := by
      rw [List.map_map]
      rfl
    rw [this]
    exact List.pairwise_map.mpr (List.Pairwise.imp (fun h e => h (Sum.inr.inj e)) hn)⟩
theorem kw_kv : ∀ {ks : List Str} {ns : List Int} {us : List Value}, Vals (ns.map V.int) us → KV ((ks.zip ns).map entK) ((ks.zip us).map fun p => ((Sum.inr p.1 : Key), p.2))
  | [], _, _, _ => .nil
  | _ :: _, [], _, r => by
    cases r
    exact .nil
  | k :: ks, n :: ns, _, r => by
    cases r with
    | cons h t => exact .cons ⟨rfl, h⟩ (kw_kv t)
def FnKw (P : Program) (w : World) (K : PySem.W.Frag) (mg : Str → Option Value) (base : Heap) (k : Nat) (f : Addr) (ks : List Str) (sp : V → List Int → Hp → VK → Prop) : Prop :=
  ∀ (A : Around) (outer : List Env) (s : Shared) (H : Hp) (x : V) (u : Value) (ns : List Int) (us : List Value) (Q : VK), RoomG k A → Env0 P w K mg base A outer s H → RelV x u → Vals (ns.map V.int) us → ns.length = ks.length → sp x ns H Q →
    codeAny (model P w) A (.call (.ref f) ⟨[u], ks.zip us⟩) (CR CX0 outer P w H s Q E0) s
section
variable {P : Program} {w : World} {K : PySem.W.Frag} {mg : Str → Option Value} {base : Heap} {k : Nat} {f : Addr} {fd : FuncData} {x qual p1 pd : Str} {st : Stmt} {N ks : List Str} {sp : Sp}
theorem env0_new {A : Around} {outer : List Env} {s : Shared} {H : Hp} {h' : Heap} {a : Addr} {u : HO} {tk : Tok} (e0 : Env0 P w K mg base A outer s H) (kp : ∀ b x, s.heap.get? b = some x → h'.get? b = some x) (hz : s.heap.objs.size ≤ h'.objs.size) (hp : s.heap.objs.size ≤ a)
    (new : ObjOk P w (upd H a u) h' a u) : Env0 P w K mg base A outer { s with heap := h', toks := tk } (upd H a u) := by
  refine ⟨e0.frames, e0.mod, fun b x e => ⟨kp b x (e0.bs b x e).1, ?_⟩, ?_, Heap.FunFrames.of_keeps (fun b x e _ => ⟨x, kp b x e, rfl⟩) e0.funs, fun b hb => ?_, e0.hok.laid kp hp new, e0.bare⟩
  · rw [upd_ne (Nat.ne_of_lt (Nat.lt_of_lt_of_le (Heap.lt_size (e0.bs b x e).1) hp))]
    exact (e0.bs b x e).2
  · exact Nat.le_trans e0.bsz hz
  · obtain ⟨_, x, hx, _⟩ := e0.funs.mem hb
    rw [upd_ne (Nat.ne_of_lt (Nat.lt_of_lt_of_le (Heap.lt_size hx) hp))]
    exact e0.frf b hb
theorem fn_kwn (F : Fun K x qual st f fd) (S : FnScope N [p1, pd] (defScope st)) (hn : ks.Nodup) (hks : ks.length ≤ 60)
    (hb : ∀ (u : Value) (us : List Value), us.length = ks.length → bindArgs fd ⟨[u], ks.zip us⟩ = ((alloc ({ cls := .type "dict", data := .dict #[] } : Obj) : Sem Addr) >>= fun d =>
      (forIn (ks.zip us) PUnit.unit (fun x _ => (nsSet d x.1 x.2 >>= fun _ => pure (ForInStep.yield PUnit.unit))) >>= fun _ => pure ([(p1, u), (pd, Value.ref d)] : List (Str × Value)))))
    (hbody : ∀ (cdv : Value) (A : Around) (outer : List Env) (s : Shared) (H : Hp) (vs : List V) (Q : VK), RoomG k (A.deeper (envOfC qual (defScope st) s.heap.objs.size f cdv)) → sp vs H Q E0 →
      ∃ t, PSs (cxOf CX0 P w K mg base N qual (defScope st) f cdv A outer s H E0).nox (defBody st) t ∧ t { nx := fun _ H' => Q .non H', rt := Q } (start N vs) H) :
    FnKw P w K mg base (k + 1) f ks (fun x ns H Q => ∀ d, H d = none → sp [x, V.ref d] (upd H d (.dK ((ks.zip ns).map entK))) Q E0) := by
  obtain ⟨oc, od, kV, doc, pm, an, cdv, ct, osl, rfl, lk, hcd⟩ := F.ex
  intro A outer s H x u ns us Q hr e0 rx r hl hq
  have hnn : H s.heap.objs.size = none := e0.hok.fresh (Nat.le_refl _)
  have hl1 : us.length = ks.length := by
    have := r.length
    rw [List.length_map] at this
    omega
  refine StX.run_bnd (CX := CX0) (E := E0) lk hcd S hr.rm e0 (G := fun xs H2 => ∃ d, H d = none ∧ xs = [x, V.ref d] ∧ H2 = upd H d (.dK ((ks.zip ns).map entK))) (fun A' Ex Q' h => ?_) fun s2 H2 xs ⟨d, hd, ex, eH⟩ hr' => ?_
  · rw [hb u us hl1]
    refine wpAny_bind (wpAny_alloc ?_)
    have k0 : ∀ b o, s.heap.get? b = some o → (s.heap.push ({ cls := .type "dict", data := .dict #[] } : Obj)).get? b = some o := fun b o e => Heap.get?_push_of_some _ e
    have hzk : (ks.zip us).map (·.1) = ks := List.map_fst_zip (by omega)
    refine wpAny_bind (fill_kw (ks.zip us) { s with heap := s.heap.push ({ cls := .type "dict", data := .dict #[] } : Obj) } [] 0 (show _ = some (dictOf [] 0) from Heap.get?_push_size _ rfl) (fun _ he => nomatch he) (fun _ he => nomatch he) (by rw [hzk]; exact hn) fun h' D kp z => wpAny_pure ?_)
    have kp1 : ∀ b o, s.heap.get? b = some o → h'.get? b = some o := fun b o e => kp b o (Nat.ne_of_lt (Heap.lt_size e)) (k0 b o e)
    have D2 : h'.get? s.heap.objs.size = some (dictOf (kwEs w.params s.toks (ks.zip us)) (0 + (ks.zip us).length)) := by
      have := D
      rw [List.nil_append] at this
      exact this
    have lz : (ks.zip ns).length ≤ 60 := by
      rw [List.length_zip]
      omega
    have new : ObjOk P w (upd H s.heap.objs.size (.dK ((ks.zip ns).map entK))) h' s.heap.objs.size (.dK ((ks.zip ns).map entK)) :=
      ⟨by rw [List.length_map]; exact Nat.le_trans lz (by decide), beq_eq_false_iff_ne.mpr (Ne.symm (Nat.ne_of_lt (StX.env0_big e0))), _, kw_kv r, kw_dictOf P w D2 (by rw [hzk]; exact hn)⟩
    have sz : s.heap.objs.size ≤ h'.objs.size := by
      rw [z]
      show _ ≤ (s.heap.push _).objs.size
      rw [Heap.size_push]
      exact Nat.le_succ _
    have e1 := env0_new (tk := s.toks + (ks.zip us).length) e0 kp1 sz (Nat.le_refl _) new
    have un1 : Un (frs outer) [] H (upd H s.heap.objs.size (.dK ((ks.zip ns).map entK))) s.heap h' := Un.laid kp1 (Nat.le_refl _) hnn
    exact h _ _ [x, V.ref s.heap.objs.size] [u, Value.ref s.heap.objs.size] e1 un1 rfl (fun e s' z => z.elim) (.cons rx (.cons rfl .nil)) rfl ⟨_, hnn, rfl, rfl⟩
  · subst ex eH
    obtain ⟨t, ht, q⟩ := hbody cdv A outer s2 _ _ Q ⟨hr', hr.gd⟩ (hq d hd)
    exact ⟨t, ht.nox, q⟩
end
/-- C(k = e, ..) -/
def tNewK (C : Addr) (ks : List Str) (sp : V → List Int → Hp → VK → Prop) (t : TA) : TE := fun σ H Q => t σ H fun vs H1 => ∃ ns : List Int, vs = ns.map V.int ∧ ns.length = ks.length ∧
  ∀ x dx, H1 x = none → H1 dx = none → dx ≠ x → sp (.ref x) ns (upd (upd H1 dx (.own x)) x (.ins C dx [])) (fun v H2 => v = .non ∧ Q (.ref x) H2)
structure MkK (P : Program) (w : World) (K : PySem.W.Frag) (mg : Str → Option Value) (base : Heap) (k : Nat) (x : Str) (C : Addr) (ks : List Str) (sp : V → List Int → Hp → VK → Prop) : Prop where
  ex : ∃ f : Addr, Mk K C f ∧ FnKw P w K mg base k f ks sp ∧ mg x = some (.ref C)
section
variable {X : Cx} {k j : Nat} {C : Addr} {sp : V → List Int → Hp → VK → Prop} {x : Str} {p pos : Pos} {ks : List Str} {kws : List Keyword} {tk : TA}
theorem pe_newk (M : MkK X.prog X.w X.K X.mg X.base k x C ks sp) (hr : RoomG j X.A) (hk : k + 1 ≤ j) (hg : Gl X x) (hkw : PK X kws tk)
    (hall : (backToKw pos (keywordEach kws X.env)).all (·.1.isSome) = true := by rfl) (hks : (backToKw pos (keywordEach kws X.env)).filterMap (·.1) = ks := by rfl) (hdb : (x == ("__debug__" : Str)) = false := by decide)
    (hpl : ((backTo pos (starEach [] X.env)).any (·.1) || (backToKw pos (keywordEach kws X.env)).any (·.1.isNone)) = false := by rfl) : PE X (.Call (.Name x p) [] kws pos) (tNewK C ks sp tk) := by
  obtain ⟨f, M, F, hm⟩ := M.ex
  refine ⟨fun pins s σ H Q I h => ?_⟩
  refine wpAny_Call_Name_kw (ld_glob I hg hm ?_ hdb)
  refine PySem.W.callWith_KW0 (first := []) (h₀ := X.base) I.ok.mod.kin M.kp hall (thn (hkw.run pos pins s σ H _ I h) fun us s1 ⟨vs, H1, I1, r, ns, ev, hl, q⟩ => ⟨I1.kIn, ?_⟩) hpl
  rw [hks]
  subst ev
  have hq := q (s1.heap.objs.size + 1) s1.heap.objs.size (I1.hok.fresh (Nat.le_succ _)) (I1.hok.fresh (Nat.le_refl _)) (Nat.ne_of_lt (Nat.lt_succ_self _))
  have I2 := Inv.made (C := C) I1
  refine wpAny_call (make_map (f := f) I1.kIn M.makes M.init (beq_iff_eq.mp M.fn) (codeAny_mono (F _ X.stack _ _ (V.ref (s1.heap.objs.size + 1)) (Value.ref (s1.heap.objs.size + 1)) ns us _ ((hr.mono hk).make C [] (ks.zip us)) (I2.env0.make C [] (ks.zip us)) rfl r hl hq) fun r s' hq' => ?_))
  cases r with
  | error e => exact False.elim hq'
  | ok fl =>
    cases fl with
    | ret u =>
      obtain ⟨v, H', I3, rv, ev, q3⟩ := I2.after hq'
      subst ev
      exact ⟨rv, ⟨V.ref (s1.heap.objs.size + 1), H', I3, rfl, q3⟩⟩
    | next => exact False.elim hq'
    | brk => exact False.elim hq'
    | cont => exact False.elim hq'
end
/-! ### C.m(k = e), m a static method of one parameter -/
structure StK (P : Program) (w : World) (K : PySem.W.Frag) (mg : Str → Option Value) (base : Heap) (k : Nat) (C : Addr) (m p1 : Str) (sp : Sp) : Prop where
  ga : PySem.W.specialIn K (.ref C) "__getattribute__" = some (some (.builtin "type.__getattribute__"))
  ex : ∃ (mc : Value) (p f : Addr) (fd : FuncData) (rest : List Value), PySem.W.readsIn K C mc = true ∧ PySem.W.findCls K (.ref C) mc m = some (.get (.builtin "staticmethod.__get__") (.ref p) .none (.ref C)) ∧
    PySem.W.recIn K p "staticmethod" = some (.ref f :: rest) ∧ PySem.W.keepIn K (.ref f) = true ∧ FnG P w K mg base k f fd [p1] sp ∧ (∀ u : Value, bindArgs fd ⟨[], [(p1, u)]⟩ = pure ([p1].zip [u]))
section
variable {X : Cx} {k j : Nat} {C : Addr} {p1 : Str} {sp : Sp} {m : Str} {o : Expr} {kws : List Keyword} {ta : TE} {tk : TA} {pos apos : Pos}
theorem pe_smk {pl : Sem Bool} (he : PE X o ta) (M : StK X.prog X.w X.K X.mg X.base k C m p1 sp) (hr : RoomG j X.A) (hk : k ≤ j) (hkw : PK X kws tk)
    (hall : (backToKw pos (keywordEach kws X.env)).all (·.1.isSome) = true := by rfl) (hks : (backToKw pos (keywordEach kws X.env)).filterMap (·.1) = [p1] := by rfl)
    (hpl : ((backTo pos (starEach [] X.env)).any (·.1) || (backToKw pos (keywordEach kws X.env)).any (·.1.isNone)) = false := by rfl)
    (ht : eval (.Call (.Attribute o m apos) [] kws pos) X.env = (do
      let ov ← eval o X.env
      standAt apos.atName
      let (f, first) ← holding [ov] (getMethod ov m pl)
      callWith pos f first (backTo pos (starEach [] X.env)) (backToKw pos (keywordEach kws X.env))) := by rfl) :
    PE X (.Call (.Attribute o m apos) [] kws pos) (tSm C sp ta tk) := by
  obtain ⟨mc, p, f, fd, rest, h1, h2, h3, h4, F, b⟩ := M.ex
  refine ⟨fun pins s σ H Q I h => ?_⟩
  refine PySem.W.methodCall_KW (pl := pl) (thn (he.run pins s σ H _ I h) fun u s1 ⟨x, H1, I1, rx, ex, q⟩ => ?_) ht
  subst ex
  obtain rfl : u = Value.ref C := rx
  refine PySem.W.method_cls I1.kIn M.ga (PySem.W.cls_bind I1.kIn h1 h2 (wpAny_call (PySem.W.sm_get (s := { s1 with toks := s1.toks + 1 }) I1.kIn h3 (PySem.W.handed_on rfl ?_))))
  have I2 : Inv X pins σ H1 { s1 with toks := s1.toks + 1 } := I1.tok _
  refine PySem.W.callWith_KW0 (first := []) (h₀ := X.base) I2.ok.mod.kin h4 hall (thn (hkw.run pos pins _ σ H1 _ I2 q) fun us s2 ⟨vs, H2, I3, r, q2⟩ => ⟨I3.kIn, ?_⟩) hpl
  rw [hks]
  obtain ⟨v, rfl⟩ : ∃ v, us = [v] := by
    have l2 := F.len _ _ _ _ q2
    have l3 := r.length
    simp at l2
    match us, (show us.length = 1 by omega) with
    | [v], _ => exact ⟨v, rfl⟩
  exact wpAny_call (codeAny_mono (run_at F (hr.mono hk) rfl (b _) I3 r q2) fun r s' z => by
    rcases r with e | (v | _ | _ | _) <;> exact z)
end
end Lw

/-! ## FmB -/
set_option maxHeartbeats 1000000
namespace Lw
open PySem PySem.Spec PyProof.Rows L2
open Fm (cf Asc Nm)
abbrev s_Form_init : Stmt := inClass (topS 26) 0
abbrev n_Form_init : List Str := ["self", "factors", "symbol"]
theorem sc_Form_init : FnScope n_Form_init ["self", "factors"] (defScope s_Form_init) := ⟨rfl, rfl, rfl, by decide +kernel, rfl, by decide +kernel, by decide +kernel⟩
abbrev s_form_of : Stmt := topS 29
abbrev n_form_of : List Str := ["factors", "form"]
theorem sc_form_of : FnScope n_form_of ["factors"] (defScope s_form_of) := ⟨rfl, rfl, rfl, by decide +kernel, rfl, by decide +kernel, by decide +kernel⟩
abbrev s__sum_of : Stmt := topS 35
abbrev n__sum_of : List Str := ["first", "second", "number", "factors", "symbol", "factor"]
theorem sc__sum_of : FnScope n__sum_of ["first", "second", "number"] (defScope s__sum_of) := ⟨rfl, rfl, rfl, by decide +kernel, rfl, by decide +kernel, by decide +kernel⟩
abbrev s__multiple_of : Stmt := topS 36
abbrev n__multiple_of : List Str := ["form", "number", "symbol", "factor"]
theorem sc__multiple_of : FnScope n__multiple_of ["form", "number"] (defScope s__multiple_of) := ⟨rfl, rfl, rfl, by decide +kernel, rfl, by decide +kernel, by decide +kernel⟩
/-- what of the text the class must have -/
structure Fc (K : PySem.W.Frag) (mg : Str → Option Value) (C : Addr) : Prop where
  isc : C8.InsC K C
  nT : NoAttr K C "terms"
  nS : NoAttr K C "symbols"
  g_Form : ∃ u, mg "Form" = some u ∧ RelV (.ref C) u
theorem Fc.cls {K : PySem.W.Frag} {mg : Str → Option Value} {C : Addr} (c : Fc K mg C) : Cls K C := c.isc.cl
theorem nil_terms {H : Hp} {t : Addr} {ts : Tms} (h : TermsAt H t ts) (c : ∀ q ∈ ts, q ∈ ([] : Tms)) : ts = [] := by
  cases ts with
  | nil => rfl
  | cons q r => exact nomatch c q List.mem_cons_self
theorem nodup_le' {α : Type} [DecidableEq α] : ∀ {l m : List α}, l.Nodup → (∀ x ∈ l, x ∈ m) → l.length ≤ m.length
  | [], _, _, _ => Nat.zero_le _
  | x :: r, m, hn, h => by
    have hx := h x List.mem_cons_self
    have := nodup_le' (l := r) (m := m.erase x) (List.nodup_cons.mp hn).2 fun y hy => (List.mem_erase_of_ne (fun e => (List.nodup_cons.mp hn).1 (by rw [← e]; exact hy))).mpr (h y (List.mem_cons_of_mem _ hy))
    rw [List.length_erase_of_mem hx] at this
    have := List.length_pos_of_mem hx
    simp only [List.length_cons]
    omega
theorem Prs.tups {H H' : Hp} (k : ∀ b z, H b = some (.tup z) → H' b = some (.tup z)) : ∀ {ps : List Addr} {ts : Tms}, Prs H ps ts → Prs H' ps ts
  | _, _, .nil => .nil
  | _, _, .cons h r => .cons (k _ _ h) (Prs.tups k r)
theorem TermsAt.put {H : Hp} {x C dx t : Addr} {fs gs : List (Str × V)} {ts : Tms} (hx : H x = some (.ins C dx fs)) (h : TermsAt H t ts) : TermsAt (upd H x (.ins C dx gs)) t ts := by
  obtain ⟨ps, ⟨o, hd, hf⟩, hp⟩ := h
  refine ⟨ps, ⟨o, hd, ?_⟩, hp.tups fun b z q => ?_⟩
  · rw [upd_ne fun e => by rw [e, hx] at hf; cases hf]
    exact hf
  · rw [upd_ne fun e => by rw [e, hx] at q; cases q]
    exact q
theorem SymsAt.put {H : Hp} {x C dx t : Addr} {fs gs : List (Str × V)} {ts : Tms} (hx : H x = some (.ins C dx fs)) (h : SymsAt H t ts) : SymsAt (upd H x (.ins C dx gs)) t ts := by
  obtain ⟨o, hd, hf⟩ := h
  refine ⟨o, hd, ?_⟩
  rw [upd_ne fun e => by rw [e, hx] at hf; cases hf]
  exact hf
theorem tms_len {ts kvs : Tms} (n : Nm ts) (h : ∀ q ∈ ts, q ∈ kvs) : ts.length ≤ kvs.length := by
  have nd : ts.Nodup := by
    have : ∀ {ts : Tms}, Asc ts → ts.Nodup := by
      intro ts
      induction ts with
      | nil => exact fun _ => List.nodup_nil
      | cons p r ih => exact fun h => List.nodup_cons.mpr ⟨fun m => Fm.lt_irr _ (h.1 p m), ih h.2⟩
    exact this n.asc
  exact nodup_le' nd h
/-- an object, to be a form -/
def spInitK (C : Addr) : Sp := fun vs H Q _ => ∃ (x d dx : Addr) (kvs : Tms), vs = [.ref x, .ref d] ∧ H d = some (.dK (kvs.map entK)) ∧ H x = some (.ins C dx []) ∧ (kvs.map (·.1)).Nodup ∧ kvs.length < 64 ∧ (∀ q ∈ kvs, (Tr.str q.1).sym = true ∧ q.1.length ≤ 1000) ∧
  ∀ H' t u ts, (∀ b o, b ≠ x → H b = some o → H' b = some o) → H' x = some (.ins C dx [("terms", .ref t), ("symbols", .ref u)]) → TermsAt H' t ts → SymsAt H' u ts → Nm ts → (∀ s, cf ts s = cf kvs s) → (∀ q ∈ ts, q ∈ kvs) → Q .non H'
section
variable {P : Program} {w : World} {K : PySem.W.Frag} {mg : Str → Option Value} {base : Heap} {C : Addr}
set_option maxHeartbeats 4000000 in
theorem init_body {f : Addr} (T : Ta mg) (C0 : Fc K mg C) (c_is_symbol : Cal P w K mg base 2 "is_symbol" ["value"] (spB K Tr.sym)) (c_is_integer : Cal P w K mg base 1 "is_integer" ["value"] (spB K Tr.whole))
    (c__terms_of : Cal P w K mg base 1 "_terms_of" ["factors"] spTermsOf) (c__symbols_of : Cal P w K mg base 1 "_symbols_of" ["terms"] spSymsOf)
    (cdv : Value) (A : Around) (outer : List Env) (s : Shared) (H : Hp) (vs : List V) (Q : VK) (hr : RoomG 2 (A.deeper (envOfC "Form.__init__" (defScope s_Form_init) s.heap.objs.size f cdv))) (h : spInitK C vs H Q E0) :
      ∃ t, PSs (cxOf CX0 P w K mg base n_Form_init "Form.__init__" (defScope s_Form_init) f cdv A outer s H E0).nox (defBody s_Form_init) t ∧ t { nx := fun _ H' => Q .non H', rt := Q } (start n_Form_init vs) H := by
  obtain ⟨x, d, dx, kvs, rfl, hd, hx, hn, hl, hsy, k⟩ := h
  refine ⟨_, (pss_cons (ps_lock (ps_for PassesOwn.never rfl (pi_keys (pv 1)) (pg_name (i := 2) sc_Form_init.nd rfl (by first | exact .inl rfl | exact .inr rfl))
    (pss_one (ps_if (pt_not (pt_val (pe_c c_is_symbol hr (by decide) rfl (pa_cons (pv 2) pa_nil))))
    (pss_one ps_dead)
    pss_nil))))
  (pss_cons (ps_lock (ps_for PassesOwn.never rfl (pi_keys (pv 1)) (pg_name (i := 2) sc_Form_init.nd rfl (by first | exact .inl rfl | exact .inr rfl))
    (pss_one (ps_if (pt_not (pt_val (pe_c c_is_integer hr (by decide) rfl (pa_cons (pe_dget (hu_of hr.rm) (pv 1) (pv 2) (fun _ _ => rfl)) pa_nil))))
    (pss_one ps_dead)
    pss_nil))))
  (pss_cons (ps_fld (pv 0) (pe_c c__terms_of hr (by decide) rfl (pa_cons (pv 1) pa_nil)) rfl)
  (pss_one (ps_fld (pv 0) (pe_c c__symbols_of hr (by decide) rfl (pa_cons (pe_fld (pv 0) rfl) pa_nil)) rfl))))), ?_⟩
  have ne : d ≠ x := fun e => by rw [e, hx] at hd; cases hd
  have back : ∀ {od : Obj} {H1 : Hp}, Same (upd H d (.frz od (.dK (kvs.map entK)))) H1 → Same H (upd H1 d (.dK (kvs.map entK))) := fun s1 b o e => by
    by_cases hb : b = d
    · rw [hb, upd_same]
      rw [hb, hd] at e
      exact e
    · rw [upd_ne hb]
      exact s1 _ _ (by rw [upd_ne hb]; exact e)
  refine ⟨d, .dK (kvs.map entK), hd, True.intro, fun od => ⟨_, rfl, d, od, rfl, .inl ⟨kvs.map entK, upd_same, for_it (walk_keys (kvs := kvs.map entK)) (fun i σ H' => (∃ z, σ = [some (.ref x), some (.ref d), z]) ∧ Same (upd H d (.frz od (.dK (kvs.map entK)))) H') ⟨⟨_, rfl⟩, Same.refl _⟩ (fun i σ H' _ ⟨_, e⟩ => e _ _ upd_same) (fun i y σ H1 H2 hi inv yy => ?_) ?_⟩⟩⟩
  · obtain ⟨⟨z, rfl⟩, s1⟩ := inv
    obtain ⟨rfl, k0, v0, hk, rfl⟩ := yy
    rw [List.getElem?_map] at hk
    obtain ⟨q, hq, e⟩ := Option.map_eq_some_iff.mp hk
    cases e
    have mq := List.mem_of_getElem? hq
    obtain ⟨q1, q2⟩ := hsy _ mq
    refine ⟨_, rfl, .str q.1, .str q.1, rfl, .str _ q2, fun H3 s3 => ?_⟩
    rw [q1]
    exact ⟨_, rfl, iteF ⟨⟨_, rfl⟩, s1.trans s3⟩⟩
  · rintro σ H1 ⟨⟨z, rfl⟩, s1⟩
    refine ⟨s1 _ _ upd_same, ?_⟩
    have s2 := back s1
    generalize upd H1 d (.dK (kvs.map entK)) = H2 at s2 ⊢
    have hd2 := s2 _ _ hd
    clear s1
    have back2 : ∀ {od : Obj} {H1 : Hp}, Same (upd H2 d (.frz od (.dK (kvs.map entK)))) H1 → Same H2 (upd H1 d (.dK (kvs.map entK))) := fun s1 b o e => by
      by_cases hb : b = d
      · rw [hb, upd_same]
        rw [hb, hd2] at e
        exact e
      · rw [upd_ne hb]
        exact s1 _ _ (by rw [upd_ne hb]; exact e)
    refine ⟨d, .dK (kvs.map entK), hd2, True.intro, fun od => ⟨_, rfl, d, od, rfl, .inl ⟨kvs.map entK, upd_same, for_it (walk_keys (kvs := kvs.map entK)) (fun i σ H' => (∃ z, σ = [some (.ref x), some (.ref d), z]) ∧ Same (upd H2 d (.frz od (.dK (kvs.map entK)))) H') ⟨⟨_, rfl⟩, Same.refl _⟩ (fun i σ H' _ ⟨_, e⟩ => e _ _ upd_same) (fun i y σ H1 H3 hi inv yy => ?_) ?_⟩⟩⟩
    · obtain ⟨⟨z, rfl⟩, s1⟩ := inv
      obtain ⟨rfl, k0, v0, hk, rfl⟩ := yy
      rw [List.getElem?_map] at hk
      obtain ⟨q, hq, e⟩ := Option.map_eq_some_iff.mp hk
      cases e
      have mq := List.mem_of_getElem? hq
      have vg := val_cf (kvs := kvs) (s := q.1) (List.mem_map_of_mem mq)
      have g : DGet H3 d (V.str q.1) (some (.int (cf kvs q.1))) := .inl ⟨kvs.map entK, Sum.inr q.1, .inr ⟨_, s1 _ _ upd_same⟩, rfl, vg.symm⟩
      refine ⟨_, rfl, _, rfl, d, _, rfl, g, _, .int (cf kvs q.1), rfl, .int _, fun H4 s4 => ?_⟩
      exact ⟨_, rfl, iteF ⟨⟨_, rfl⟩, s1.trans s4⟩⟩
    · rintro σ H1 ⟨⟨z, rfl⟩, s1⟩
      refine ⟨s1 _ _ upd_same, ?_⟩
      have s3 := s2.trans (back2 s1)
      generalize upd H1 d (.dK (kvs.map entK)) = H3 at s3 ⊢
      have hd3 := s3 _ _ hd
      have hx3 := s3 _ _ hx
      refine ⟨_, rfl, d, kvs, rfl, hd3, hn, hl, fun t H4 ts s4 nt ht nm hc hq => ?_⟩
      have hx4 := s4 _ _ hx3
      refine ⟨_, rfl, x, C, dx, [], rfl, hx4, C0.cls, C0.nT, by simp, ?_⟩
      have l1 : putF "terms" (.ref t) [] = [(("terms" : Str), V.ref t)] := rfl
      have l2 : ∀ u, putF "symbols" (.ref u) [(("terms" : Str), V.ref t)] = [(("terms" : Str), V.ref t), ("symbols", .ref u)] := fun u => by
        show (if ("terms" : Str) = "symbols" then _ else _) = _
        rw [if_neg (by decide)]
        rfl
      rw [l1]
      have up : ∀ {b o}, H4 b = some o → b ≠ x → upd H4 x (.ins C dx [("terms", .ref t)]) b = some o := fun e n => by
        rw [upd_ne n]
        exact e
      have ht2 : TermsAt (upd H4 x (.ins C dx [("terms", .ref t)])) t ts := ht.put hx4
      have lts : ts.length < 64 := Nat.lt_of_le_of_lt (tms_len nm hq) hl
      refine ⟨_, rfl, x, C, dx, _, _, rfl, upd_same, C0.cls, C0.nT, rfl, t, ts, rfl, ht2, by omega, fun u H5 s5 hu hs => ?_⟩
      refine ⟨_, rfl, x, C, dx, _, rfl, s5 _ _ upd_same, C0.cls, C0.nS, by simp, ?_⟩
      rw [l2]
      have hx5 := s5 _ _ (upd_same (H := H4) (a := x) (o := .ins C dx [("terms", .ref t)]))
      refine k _ t u ts (fun b o n e => ?_) upd_same ((ht2.same s5).put hx5) (hs.put hx5) nm hc hq
      rw [upd_ne n]
      exact s5 _ _ (up (s4 _ _ (s3 _ _ e)) n)
def spInit0 (C : Addr) : Sp := fun vs H Q _ => ∃ x d dx, vs = [.ref x, .ref d] ∧ H d = some (.dK []) ∧ H x = some (.ins C dx []) ∧
  ∀ H' t u, (∀ b o, b ≠ x → H b = some o → H' b = some o) → H' x = some (.ins C dx [("terms", .ref t), ("symbols", .ref u)]) → TermsAt H' t [] → SymsAt H' u [] → Q .non H'
theorem ok_Form_init {f : Addr} {fd : FuncData} (F : Fun K "__init__" "Form.__init__" s_Form_init f fd) (T : Ta mg) (C0 : Fc K mg C) (c_is_symbol : Cal P w K mg base 2 "is_symbol" ["value"] (spB K Tr.sym)) (c_is_integer : Cal P w K mg base 1 "is_integer" ["value"] (spB K Tr.whole))
    (c__terms_of : Cal P w K mg base 1 "_terms_of" ["factors"] spTermsOf) (c__symbols_of : Cal P w K mg base 1 "_symbols_of" ["terms"] spSymsOf)
    (hb : ∀ us : List Value, us.length = ["self"].length → bindArgs fd ⟨us, []⟩ = ((alloc ({ cls := .type "dict", data := .dict #[] } : Obj) : Sem Addr) >>= fun d => pure ((["self"] : List Str).zip us ++ ([("factors", Value.ref d)] : List (Str × Value))))) :
    FnN P w K mg base 3 f (fun vs H Q E => vs.length = ["self"].length ∧ ∀ d, H d = none → spInit0 C (vs ++ [V.ref d]) (upd H d (.dK [])) Q E0) := by
  refine fn_kw0 (pd := "factors") (ps := ["self"]) F sc_Form_init hb (fun cdv A outer s H vs Q hr h => init_body T C0 c_is_symbol c_is_integer c__terms_of c__symbols_of cdv A outer s H vs Q hr ?_)
  obtain ⟨x, d, dx, rfl, hd, hx, k⟩ := h
  exact ⟨x, d, dx, [], rfl, hd, hx, List.nodup_nil, by decide, fun q hq => (nomatch hq), fun H' t u ts a b c e _ _ g => by
    have z : ts = [] := nil_terms c g
    subst z
    exact k H' t u a b c e⟩
/-- a form made by keywords -/
def spNewK (C : Addr) (ks : List Str) : V → List Int → Hp → VK → Prop := fun x ns H Q => ∃ a dx, x = .ref a ∧ H a = some (.ins C dx []) ∧ ns.length = ks.length ∧
  ∀ H' ts, (∀ b o, b ≠ a → H b = some o → H' b = some o) → FormAt C H' a ts → Nm ts → (∀ s, cf ts s = cf (ks.zip ns) s) → (∀ q ∈ ts, q ∈ ks.zip ns) → Q .non H'
theorem ok_Form_initK {f : Addr} {fd : FuncData} {ks : List Str} (F : Fun K "__init__" "Form.__init__" s_Form_init f fd) (T : Ta mg) (C0 : Fc K mg C) (c_is_symbol : Cal P w K mg base 2 "is_symbol" ["value"] (spB K Tr.sym)) (c_is_integer : Cal P w K mg base 1 "is_integer" ["value"] (spB K Tr.whole))
    (c__terms_of : Cal P w K mg base 1 "_terms_of" ["factors"] spTermsOf) (c__symbols_of : Cal P w K mg base 1 "_symbols_of" ["terms"] spSymsOf) (hn : ks.Nodup) (hl : ks.length ≤ 60) (hs : ∀ z ∈ ks, (Tr.str z).sym = true ∧ z.length ≤ 1000)
    (hb : ∀ (u : Value) (us : List Value), us.length = ks.length → bindArgs fd ⟨[u], ks.zip us⟩ = ((alloc ({ cls := .type "dict", data := .dict #[] } : Obj) : Sem Addr) >>= fun d =>
      (forIn (ks.zip us) PUnit.unit (fun x _ => (nsSet d x.1 x.2 >>= fun _ => pure (ForInStep.yield PUnit.unit))) >>= fun _ => pure ([("self", u), ("factors", Value.ref d)] : List (Str × Value))))) :
    FnKw P w K mg base 3 f ks (spNewK C ks) := by
  have z := fn_kwn (p1 := "self") (pd := "factors") (sp := spInitK C) (k := 2) F sc_Form_init hn hl hb (fun cdv A outer s H vs Q hr h => init_body T C0 c_is_symbol c_is_integer c__terms_of c__symbols_of cdv A outer s H vs Q hr h)
  intro A outer s H x u ns us Q hr e0 rx r l hq
  refine z A outer s H x u ns us Q hr e0 rx r l fun d hd => ?_
  obtain ⟨a, dx, rfl, ha, l2, k⟩ := hq
  have ne : a ≠ d := fun e => by rw [e, hd] at ha; cases ha
  have hz : (ks.zip ns).map (·.1) = ks := List.map_fst_zip (by omega)
  refine ⟨a, d, dx, ks.zip ns, rfl, upd_same, by rw [upd_ne ne]; exact ha, by rw [hz]; exact hn, by rw [List.length_zip]; omega, fun q hq => hs _ (by rw [← hz]; exact List.mem_map_of_mem hq), fun H' t u ts s1 h1 h2 h3 nm hc hm => k H' ts (fun b o n e => s1 b o n (by rw [upd_ne (ne_of_none e hd)]; exact e)) ⟨dx, t, u, h1, h2, h3⟩ nm hc hm⟩
end
section
variable {P : Program} {w : World} {K : PySem.W.Frag} {mg : Str → Option Value} {base : Heap} {C : Addr}
/-- few terms, of factors that are not too great -/
structure Bd (k b : Nat) (ts : Tms) : Prop where
  len : ts.length ≤ k
  lt : ∀ q ∈ ts, q.2.natAbs < 2 ^ b
/-- a form, new -/
def spFormOf (C : Addr) : Sp := fun vs H Q _ => ∃ (d : Addr) (kvs : Tms), vs = [.ref d] ∧ H d = some (.dK (kvs.map entK)) ∧ (kvs.map (·.1)).Nodup ∧ kvs.length < 64 ∧
  ∀ a H' ts, Same H H' → FormAt C H' a ts → Nm ts → (∀ s, cf ts s = cf kvs s) → (∀ q ∈ ts, q ∈ kvs) → Q (.ref a) H'
theorem ok_form_of {f : Addr} {fd : FuncData} (F : Fun K "form_of" "form_of" s_form_of f fd) (C0 : Fc K mg C) (M_new : Mk0 P w K mg base 3 "Form" C (fun vs H Q E => vs.length = ["self"].length ∧ ∀ d, H d = none → spInit0 C (vs ++ [V.ref d]) (upd H d (.dK [])) Q E0))
    (c__terms_of : Cal P w K mg base 1 "_terms_of" ["factors"] spTermsOf) (c__symbols_of : Cal P w K mg base 1 "_symbols_of" ["terms"] spSymsOf) : FnG P w K mg base 5 f fd ["factors"] (spFormOf C) := by
  refine okG F sc_form_of (fun vs H Q E h => ?_) (fun cdv A outer s H vs Q hr h => ?_)
  · obtain ⟨d, kvs, rfl, _⟩ := h
    rfl
  · obtain ⟨d, kvs, rfl, hd, hn, hl, k⟩ := h
    refine ⟨_, (pss_cons (ps_set (i := 1) sc_form_of.nd rfl (by first | exact .inl rfl | exact .inr rfl) (pe_new0 M_new hr (by decide) rfl))
  (pss_cons (ps_fld (pv 1) (pe_c c__terms_of hr (by decide) rfl (pa_cons (pv 0) pa_nil)) rfl)
  (pss_cons (ps_fld (pv 1) (pe_c c__symbols_of hr (by decide) rfl (pa_cons (pe_fld (pv 1) rfl) pa_nil)) rfl)
  (pss_one (ps_ret (pv 1)))))), ?_⟩
    refine fun x dx hx hdx hne => ⟨rfl, fun d0 hd0 => ⟨x, d0, dx, rfl, upd_same, ?_, fun H1 t0 u0 s0 hx1 ht0 hu0 => ⟨rfl, ?_⟩⟩⟩
    · have : x ≠ d0 := fun e => by rw [← e, upd_same] at hd0; cases hd0
      rw [upd_ne this, upd_same]
    · have sH : Same H H1 := fun b o e => by
        have n1 : b ≠ x := ne_of_none e hx
        have n2 : b ≠ dx := ne_of_none e hdx
        have e2 : upd (upd H dx (.own x)) x (.ins C dx []) b = some o := by rw [upd_ne n1, upd_ne n2]; exact e
        have n3 : b ≠ d0 := ne_of_none e2 hd0
        exact s0 b o n1 (by rw [upd_ne n3]; exact e2)
      refine ⟨_, rfl, d, kvs, rfl, sH _ _ hd, hn, hl, fun t H2 ts s2 nt ht nm hc hq => ?_⟩
      have hx2 := s2 _ _ hx1
      have l1 : putF "terms" (.ref t) [(("terms" : Str), V.ref t0), ("symbols", .ref u0)] = [(("terms" : Str), V.ref t), ("symbols", .ref u0)] := by
        show (if ("terms" : Str) = "terms" then _ else _) = _
        rw [if_pos rfl]
      have l2 : ∀ u, putF "symbols" (.ref u) [(("terms" : Str), V.ref t), ("symbols", .ref u0)] = [(("terms" : Str), V.ref t), ("symbols", .ref u)] := fun u => by
        show (if ("terms" : Str) = "symbols" then _ else (("terms" : Str), V.ref t) :: (if ("symbols" : Str) = "symbols" then _ else _)) = _
        rw [if_neg (by decide), if_pos rfl]
      refine ⟨_, rfl, x, C, dx, _, rfl, hx2, C0.cls, C0.nT, by simp, ?_⟩
      rw [l1]
      have up : ∀ {b o}, H2 b = some o → b ≠ x → upd H2 x (.ins C dx [("terms", .ref t), ("symbols", .ref u0)]) b = some o := fun e n => by
        rw [upd_ne n]
        exact e
      have ht2 : TermsAt (upd H2 x (.ins C dx [("terms", .ref t), ("symbols", .ref u0)])) t ts := ht.put hx2
      have lts : ts.length < 64 := Nat.lt_of_le_of_lt (tms_len nm hq) hl
      refine ⟨_, rfl, x, C, dx, _, _, rfl, upd_same, C0.cls, C0.nT, rfl, t, ts, rfl, ht2, by omega, fun u H3 s3 hu hs => ?_⟩
      have hx3 := s3 _ _ (upd_same (H := H2) (a := x) (o := .ins C dx [("terms", .ref t), ("symbols", .ref u0)]))
      refine ⟨_, rfl, x, C, dx, _, rfl, hx3, C0.cls, C0.nS, by simp, ?_⟩
      rw [l2]
      refine ⟨_, rfl, k x _ ts (fun b o e => ?_) ⟨dx, t, u, upd_same, (ht2.same s3).put hx3, hs.put hx3⟩ nm hc hq⟩
      have n1 : b ≠ x := ne_of_none e hx
      rw [upd_ne n1]
      refine s3 _ _ ?_
      rw [upd_ne n1]
      exact s2 _ _ (sH _ _ e)
def spSumOf (C : Addr) : Sp := fun vs H Q _ => ∃ (a b : Addr) (n : Int) (ts us : Tms), vs = [.ref a, .ref b, .int n] ∧ FormAt C H a ts ∧ FormAt C H b us ∧ Bd 20 200 ts ∧ Bd 20 200 us ∧ Nm ts ∧ Nm us ∧ n.natAbs < 2 ^ 200 ∧
  ∀ c H' rs, Same H H' → FormAt C H' c rs → Nm rs → (∀ s, cf rs s = cf ts s + cf us s * n) → (∀ q ∈ rs, q.1 ∈ ts.map (·.1) ∨ q.1 ∈ us.map (·.1)) → Q (.ref c) H'
end
end Lw

/-! ## FmC -/
set_option maxHeartbeats 1000000
namespace Lw
open PySem PySem.Spec PyProof.Rows L2
open Fm (cf Asc Nm)
/-- a value put under a symbol -/
def putE (kvs : Tms) (s : Str) (f : Int) : Tms := if s ∈ kvs.map (·.1) then kvs.map (fun q => if q.1 = s then (q.1, f) else q) else kvs ++ [(s, f)]
theorem put_ent (kvs : Tms) (s : Str) (f : Int) : putK (kvs.map entK) (Sum.inr s) (.int f) = (putE kvs s f).map entK := by
  have ha : ((kvs.map entK).any fun kv => decide (kv.1 = (Sum.inr s : Key))) = decide (s ∈ kvs.map (·.1)) := by
    rw [valV_any]
    by_cases h : s ∈ kvs.map (·.1)
    · rw [val_cf h, decide_eq_true h]
      rfl
    · rw [val_none h, decide_eq_false h]
      rfl
  unfold putK putE
  rw [ha]
  by_cases h : s ∈ kvs.map (·.1)
  · rw [if_pos (decide_eq_true h), if_pos h, List.map_map, List.map_map]
    refine List.map_congr_left fun q _ => ?_
    show (if (Sum.inr q.1 : Key) = Sum.inr s then ((Sum.inr q.1 : Key), V.int f) else entK q) = entK (if q.1 = s then (q.1, f) else q)
    by_cases e : q.1 = s
    · rw [if_pos (by rw [e]), if_pos e]
    · rw [if_neg (fun z => e (Sum.inr.inj z)), if_neg e]
  · rw [if_neg (by simpa using h), if_neg h, List.map_append]
    rfl
theorem put_keys (kvs : Tms) (s : Str) (f : Int) : (putE kvs s f).map (·.1) = if s ∈ kvs.map (·.1) then kvs.map (·.1) else kvs.map (·.1) ++ [s] := by
  unfold putE
  by_cases h : s ∈ kvs.map (·.1)
  · rw [if_pos h, if_pos h, List.map_map]
    refine List.map_congr_left fun q _ => ?_
    show (if q.1 = s then (q.1, f) else q).1 = q.1
    split <;> rfl
  · rw [if_neg h, if_neg h, List.map_append]
    rfl
theorem put_nodup {kvs : Tms} (h : (kvs.map (·.1)).Nodup) (s : Str) (f : Int) : ((putE kvs s f).map (·.1)).Nodup := by
  rw [put_keys]
  split
  · exact h
  · rename_i n
    exact List.nodup_append.mpr ⟨h, by simp, fun a ha b hb e => n (by rw [List.mem_singleton.mp hb] at e; exact e ▸ ha)⟩
theorem put_len (kvs : Tms) (s : Str) (f : Int) : (putE kvs s f).length ≤ kvs.length + 1 := by
  have := congrArg List.length (put_keys kvs s f)
  rw [List.length_map] at this
  rw [this]
  split <;> simp
theorem cf_map {kvs : Tms} {s t : Str} {f : Int} (h : s ∈ kvs.map (·.1)) : cf (kvs.map fun q => if q.1 = s then (q.1, f) else q) t = if t = s then f else cf kvs t := by
  induction kvs with
  | nil => cases h
  | cons p r ih =>
    obtain ⟨u, g⟩ := p
    by_cases e : u = s
    · subst e
      have e1 : ((u, g) :: r).map (fun q : Str × Int => if q.1 = u then (q.1, f) else q) = (u, f) :: r.map (fun q : Str × Int => if q.1 = u then (q.1, f) else q) := by
        rw [List.map_cons, if_pos rfl]
      rw [e1]
      show (if u = t then f else cf (r.map _) t) = if t = u then f else (if u = t then g else cf r t)
      by_cases q : u = t
      · rw [if_pos q, if_pos q.symm]
      · rw [if_neg q, if_neg (fun z => q z.symm), if_neg q]
        by_cases hr : u ∈ r.map (·.1)
        · rw [ih hr, if_neg (fun z => q z.symm)]
        · rw [show r.map (fun q : Str × Int => if q.1 = u then (q.1, f) else q) = r from (List.map_congr_left fun q hq => if_neg fun z => hr (by rw [← z]; exact List.mem_map_of_mem hq)).trans (List.map_id r)]
    · have e1 : ((u, g) :: r).map (fun q : Str × Int => if q.1 = s then (q.1, f) else q) = (u, g) :: r.map (fun q : Str × Int => if q.1 = s then (q.1, f) else q) := by
        rw [List.map_cons, if_neg e]
      rw [e1]
      show (if u = t then g else cf (r.map _) t) = if t = s then f else (if u = t then g else cf r t)
      by_cases q : u = t
      · rw [if_pos q, if_neg (fun z => e (q.trans z)), if_pos q]
      · rw [if_neg q, ih ((List.mem_cons.mp h).elim (fun z => absurd z.symm e) id), if_neg q]
theorem cf_app {kvs : Tms} {s t : Str} {f : Int} (h : s ∉ kvs.map (·.1)) : cf (kvs ++ [(s, f)]) t = if t = s then f else cf kvs t := by
  induction kvs with
  | nil =>
    show (if s = t then f else 0) = if t = s then f else 0
    by_cases e : s = t
    · rw [if_pos e, if_pos e.symm]
    · rw [if_neg e, if_neg fun z => e z.symm]
  | cons p r ih =>
    obtain ⟨u, g⟩ := p
    have hu : u ≠ s := fun z => h (by rw [← z]; exact List.mem_cons_self)
    show (if u = t then g else cf (r ++ [(s, f)]) t) = if t = s then f else (if u = t then g else cf r t)
    by_cases q : u = t
    · rw [if_pos q, if_neg (fun z => hu (q.trans z)), if_pos q]
    · rw [if_neg q, ih fun z => h (List.mem_cons_of_mem _ z), if_neg q]
theorem cf_put (kvs : Tms) (s t : Str) (f : Int) : cf (putE kvs s f) t = if t = s then f else cf kvs t := by
  unfold putE
  by_cases h : s ∈ kvs.map (·.1)
  · rw [if_pos h, cf_map h]
  · rw [if_neg h, cf_app h]
theorem merge_app : ∀ (more acc : Tms), ((acc ++ more).map (·.1)).Nodup → mergeK (acc.map entK) (more.map entK) = (acc ++ more).map entK
  | [], acc, _ => by
    rw [List.append_nil]
    rfl
  | (s, f) :: r, acc, h => by
    have n : s ∉ acc.map (·.1) := by
      rw [List.map_append, List.map_cons, List.nodup_append] at h
      exact fun m => h.2.2 s m s List.mem_cons_self rfl
    show mergeK (putK (acc.map entK) (Sum.inr s) (.int f)) (r.map entK) = _
    rw [put_ent, show putE acc s f = acc ++ [(s, f)] from if_neg n, merge_app r (acc ++ [(s, f)]) (by rw [List.append_assoc]; exact h), List.append_assoc]
    rfl
theorem asc_nodup {ts : Tms} (h : Asc ts) : (ts.map (·.1)).Nodup := by
  induction ts with
  | nil => exact List.nodup_nil
  | cons p r ih =>
    rw [List.map_cons, List.nodup_cons]
    refine ⟨fun m => ?_, ih h.2⟩
    obtain ⟨q, hq, e⟩ := List.mem_map.mp m
    exact Fm.lt_irr _ (e ▸ h.1 q hq)
theorem pairs_ent {K : PySem.W.Frag} {H : Hp} : ∀ {ps : List Addr} {ts : Tms}, Prs H ps ts → Paired (fun p (kv : Key × V) => SqT K H p [kV kv.1, kv.2]) ps (ts.map entK)
  | _, _, .nil => .nil
  | _, _, .cons h r => .cons (SqT.of h) (pairs_ent r)
/-- d.get(s, 0) -/
theorem get0 {H : Hp} {d : Addr} {kvs : Tms} {s : Str} (h : H d = some (.dK (kvs.map entK))) : ∃ o, DGet H d (.str s) o ∧ o.getD (.int 0) = .int (cf kvs s) := by
  refine ⟨_, DGet.k (k := Sum.inr s) h, ?_⟩
  by_cases m : s ∈ kvs.map (·.1)
  · rw [val_cf m]
    rfl
  · rw [val_none m, cf_nin m]
    rfl
theorem cf_take {us : Tms} (hn : (us.map (·.1)).Nodup) {i : Nat} {s : Str} {f : Int} (h : us[i]? = some (s, f)) (t : Str) : cf (us.take (i + 1)) t = if t = s then f else cf (us.take i) t := by
  have tk : us.take (i + 1) = us.take i ++ [(s, f)] := by
    rw [List.take_add_one, h]
    rfl
  rw [tk]
  refine cf_app fun m => ?_
  have hi := (List.getElem?_eq_some_iff.mp h).1
  have : us = us.take i ++ (s, f) :: us.drop (i + 1) := by
    rw [← (List.getElem?_eq_some_iff.mp h).2, ← List.drop_eq_getElem_cons hi, List.take_append_drop]
  rw [this, List.map_append, List.map_cons, List.nodup_append] at hn
  exact hn.2.2 s m s List.mem_cons_self rfl
theorem cf_take0 {us : Tms} (hn : (us.map (·.1)).Nodup) {i : Nat} {s : Str} {f : Int} (h : us[i]? = some (s, f)) : cf (us.take i) s = 0 := by
  refine cf_nin fun m => ?_
  have hi := (List.getElem?_eq_some_iff.mp h).1
  have : us = us.take i ++ (s, f) :: us.drop (i + 1) := by
    rw [← (List.getElem?_eq_some_iff.mp h).2, ← List.drop_eq_getElem_cons hi, List.take_append_drop]
  rw [this, List.map_append, List.map_cons, List.nodup_append] at hn
  exact hn.2.2 s m s List.mem_cons_self rfl
section
variable {P : Program} {w : World} {K : PySem.W.Frag} {mg : Str → Option Value} {base : Heap} {C : Addr}
theorem ok_sum_of {f : Addr} {fd : FuncData} (F : Fun K "_sum_of" "_sum_of" s__sum_of f fd) (T : Ta mg) (C0 : Fc K mg C) (c_form_of : Cal P w K mg base 5 "form_of" ["factors"] (spFormOf C)) : FnG P w K mg base 6 f fd ["first", "second", "number"] (spSumOf C) := by
  refine okG F sc__sum_of (fun vs H Q E h => ?_) (fun cdv A outer s H vs Q hr h => ?_)
  · obtain ⟨a, b, n, ts, us, rfl, _⟩ := h
    rfl
  · obtain ⟨a, b, n, ts, us, rfl, ⟨dx, t, u, ha, ⟨ps, ht, hp⟩, hu⟩, ⟨dy, t2, u2, hb, ⟨qs, ht2, hq⟩, hu2⟩, ⟨l1, b1⟩, ⟨l2, b2⟩, n1, n2, hn, k⟩ := h
    refine ⟨_, (pss_cons (ps_set (i := 3) sc__sum_of.nd rfl (by first | exact .inl rfl | exact .inr rfl) (pe_callTy (call_dictPT (by rfl)) (by rfl) T.b_dict (by decide +kernel) (pa_cons (pe_fld (pv 0) rfl) pa_nil)))
  (pss_cons (ps_for PassesOwn.never rfl (pi_tup (pe_fld (pv 1) rfl)) (pg_tup rfl (pgs_cons (pg_name (i := 4) sc__sum_of.nd rfl (by first | exact .inl rfl | exact .inr rfl)) (pgs_cons (pg_name (i := 5) sc__sum_of.nd rfl (by first | exact .inl rfl | exact .inr rfl)) pgs_nil)))
    (pss_one (ps_dput (hu_of hr.rm) (pv 3) (pv 4) (pe_op op_add (pe_dget2 (hu_of hr.rm) (pv 3) (pv 4) pe_int ⟨rfl, rfl, rfl, rfl⟩) (pe_op op_mulW (pv 5) (pv 2))) rfl)))
  (pss_one (ps_ret (pe_c c_form_of hr (by decide) rfl (pa_cons (pv 3) pa_nil)))))), ?_⟩
    have nd1 := asc_nodup n1.asc
    have nd2 := asc_nodup n2.asc
    refine ⟨_, rfl, a, C, dx, _, _, rfl, ha, C0.cls, C0.nT, rfl, t, ps, ts.map entK, rfl, ht, pairs_ent hp, fun d hd => ?_⟩
    have em : mergeK [] (ts.map entK) = ts.map entK := merge_app ts [] nd1
    rw [em]
    have s1 : Same H (upd H d (.dK (ts.map entK))) := Same.new hd
    have fr : ∀ b o, H b = some o → b ≠ d := fun b o e => ne_of_none e hd
    have hq2 := hq.len
    refine ⟨_, rfl, b, C, dy, _, _, rfl, s1 _ _ hb, C0.cls, C0.nT, rfl, t2, rfl, ⟨_, (ht2.same s1).sq⟩, for_tup (K := K) (a := t2) (xs := qs.map V.ref) (fun i σ H' => ∃ (x4 x5 : Option V) (kvs : Tms), σ = [some (.ref a), some (.ref b), some (.int n), some (.ref d), x4, x5] ∧ (∀ b o, H b = some o → H' b = some o) ∧ H' d = some (.dK (kvs.map entK)) ∧ (kvs.map (·.1)).Nodup ∧
        kvs.length ≤ ts.length + i ∧ (∀ s, cf kvs s = cf ts s + cf (us.take i) s * n) ∧ (∀ q ∈ kvs, q.1 ∈ ts.map (·.1) ∨ q.1 ∈ us.map (·.1)))
      ⟨_, _, ts, rfl, s1, upd_same, nd1, by omega, fun s => by rw [List.take_zero]; show _ = _ + 0 * n; omega, fun q m => .inl (List.mem_map_of_mem m)⟩ (fun i σ H' _ ⟨_, _, _, _, s', _⟩ => (ht2.same s').sq) ?_ ?_⟩
    · rintro i x σ H2 hi ⟨x4, x5, kvs, rfl, s2, hd2, nd, lk, hc, hm⟩
      obtain ⟨p, q, rfl, hiq, hpq⟩ := hq.get hi
      obtain ⟨s, g⟩ := q
      obtain ⟨o, hg, eo⟩ := get0 (s := s) hd2
      have gb := b2 _ (List.mem_of_getElem? hiq)
      have li : i < us.length := (List.getElem?_eq_some_iff.mp hiq).1
      refine ⟨p, _, rfl, SqT.of (s2 _ _ hpq), rfl, _, _, rfl, _, _, rfl, rfl, ?_⟩
      refine ⟨_, rfl, d, rfl, .inl ⟨_, .inl hd2⟩, _, rfl, o, hg, ?_⟩
      rw [eo]
      refine ⟨_, rfl, _, rfl, _, _, rfl, rfl, wide_mul gb hn (by decide) (by decide) (by decide), _, _, rfl, rfl, _, rfl, _, rfl, d, _, rfl, DPut.k (k := Sum.inr s) hd2 ?_, _, _, putE kvs s (cf kvs s + g * n), rfl, fun b o e => ?_, ?_, put_nodup nd _ _, ?_, fun t => ?_, fun q hqm => ?_⟩
      · rw [List.length_map]
        exact Nat.lt_of_le_of_lt (show kvs.length ≤ 1000 by omega) (by decide)
      · rw [upd_ne (fr b o e)]
        exact s2 _ _ e
      · rw [upd_same, put_ent]
      · have := put_len kvs s (cf kvs s + g * n)
        omega
      · rw [cf_put, cf_take nd2 hiq]
        by_cases e : t = s
        · subst e
          rw [if_pos rfl, if_pos rfl, hc t, cf_take0 nd2 hiq]
          show _ + 0 * n + _ = _
          omega
        · rw [if_neg e, if_neg e, hc t]
      · have : q.1 ∈ (putE kvs s (cf kvs s + g * n)).map (·.1) := List.mem_map_of_mem hqm
        rw [put_keys] at this
        split at this
        · obtain ⟨q', hq', e⟩ := List.mem_map.mp this
          rw [← e]
          exact hm q' hq'
        · rcases List.mem_append.mp this with this | this
          · obtain ⟨q', hq', e⟩ := List.mem_map.mp this
            rw [← e]
            exact hm q' hq'
          · rw [List.mem_singleton.mp this]
            exact .inr (List.mem_map_of_mem (f := (·.1)) (List.mem_of_getElem? hiq))
    · rintro σ H2 ⟨x4, x5, kvs, rfl, s2, hd2, nd, lk, hc, hm⟩
      rw [List.length_map, hq2, List.take_length] at hc
      rw [List.length_map, hq2] at lk
      refine ⟨_, rfl, d, kvs, rfl, hd2, nd, by omega, fun c H3 rs s3 hf nm hcf hmem => k c H3 rs (fun b o e => s3 _ _ (s2 _ _ e)) hf nm (fun s => by rw [hcf, hc]) fun q m => hm q (hmem q m)⟩
end
end Lw

/-! ## FmD -/
set_option maxHeartbeats 1000000
namespace Lw
open PySem PySem.Spec PyProof.Rows L2
open Fm (cf Asc Nm)
abbrev s_check_form : Stmt := topS 28
abbrev n_check_form : List Str := ["value"]
theorem sc_check_form : FnScope n_check_form ["value"] (defScope s_check_form) := ⟨rfl, rfl, rfl, by decide +kernel, rfl, by decide +kernel, by decide +kernel⟩
abbrev s_Form_add : Stmt := inClass (topS 26) 4
abbrev n_Form_add : List Str := ["self", "other"]
theorem sc_Form_add : FnScope n_Form_add ["self", "other"] (defScope s_Form_add) := ⟨rfl, rfl, rfl, by decide +kernel, rfl, by decide +kernel, by decide +kernel⟩
abbrev s_Form_sub : Stmt := inClass (topS 26) 5
abbrev n_Form_sub : List Str := ["self", "other"]
theorem sc_Form_sub : FnScope n_Form_sub ["self", "other"] (defScope s_Form_sub) := ⟨rfl, rfl, rfl, by decide +kernel, rfl, by decide +kernel, by decide +kernel⟩
abbrev s_Form_neg : Stmt := inClass (topS 26) 6
abbrev n_Form_neg : List Str := ["self"]
theorem sc_Form_neg : FnScope n_Form_neg ["self"] (defScope s_Form_neg) := ⟨rfl, rfl, rfl, by decide +kernel, rfl, by decide +kernel, by decide +kernel⟩
abbrev s_Form_mul : Stmt := inClass (topS 26) 7
abbrev n_Form_mul : List Str := ["self", "other"]
theorem sc_Form_mul : FnScope n_Form_mul ["self", "other"] (defScope s_Form_mul) := ⟨rfl, rfl, rfl, by decide +kernel, rfl, by decide +kernel, by decide +kernel⟩
def spMultOf (C : Addr) : Sp := fun vs H Q _ => ∃ (a : Addr) (n : Int) (ts : Tms), vs = [.ref a, .int n] ∧ FormAt C H a ts ∧ Bd 40 200 ts ∧ Nm ts ∧ n.natAbs < 2 ^ 200 ∧
  ∀ c H' rs, Same H H' → FormAt C H' c rs → Nm rs → (∀ s, cf rs s = cf ts s * n) → (∀ q ∈ rs, q.1 ∈ ts.map (·.1)) → Q (.ref c) H'
/-- times a number -/
def mulE (ts : Tms) (n : Int) : Tms := ts.map fun q => (q.1, q.2 * n)
theorem mul_keys (ts : Tms) (n : Int) : (mulE ts n).map (·.1) = ts.map (·.1) := by
  unfold mulE
  rw [List.map_map]
  rfl
theorem cf_mul : ∀ (ts : Tms) (n : Int) (s : Str), cf (mulE ts n) s = cf ts s * n
  | [], n, s => by
    show 0 = 0 * n
    omega
  | (t, f) :: r, n, s => by
    show (if t = s then f * n else cf (mulE r n) s) = (if t = s then f else cf r s) * n
    split
    · rfl
    · exact cf_mul r n s
theorem mul_take {ts : Tms} {n : Int} {i : Nat} {s : Str} {f : Int} (h : ts[i]? = some (s, f)) : mulE (ts.take (i + 1)) n = mulE (ts.take i) n ++ [(s, f * n)] := by
  unfold mulE
  rw [List.take_add_one, h, List.map_append]
  rfl
theorem take_nin {us : Tms} (hn : (us.map (·.1)).Nodup) {i : Nat} {s : Str} {f : Int} (h : us[i]? = some (s, f)) : s ∉ (us.take i).map (·.1) := by
  intro m
  have hi := (List.getElem?_eq_some_iff.mp h).1
  have : us = us.take i ++ (s, f) :: us.drop (i + 1) := by
    rw [← (List.getElem?_eq_some_iff.mp h).2, ← List.drop_eq_getElem_cons hi, List.take_append_drop]
  rw [this, List.map_append, List.map_cons, List.nodup_append] at hn
  exact hn.2.2 s m s List.mem_cons_self rfl
def spUnit (C : Addr) : Sp := fun vs H Q _ => ∃ a, vs = [.ref a] ∧ Is C H a ∧ Q .non H
theorem FormAt.is {C : Addr} {H : Hp} {a : Addr} {ts : Tms} (h : FormAt C H a ts) : Is C H a := by
  obtain ⟨dx, t, u, h, _⟩ := h
  exact ⟨dx, _, h⟩
/-- a + b, a - b -/
def spOpOf (C : Addr) (n : Int) : Sp := fun vs H Q _ => ∃ (a b : Addr) (ts us : Tms), vs = [.ref a, .ref b] ∧ FormAt C H a ts ∧ FormAt C H b us ∧ Bd 20 200 ts ∧ Bd 20 200 us ∧ Nm ts ∧ Nm us ∧
  ∀ c H' rs, Same H H' → FormAt C H' c rs → Nm rs → (∀ s, cf rs s = cf ts s + cf us s * n) → (∀ q ∈ rs, q.1 ∈ ts.map (·.1) ∨ q.1 ∈ us.map (·.1)) → Q (.ref c) H'
def spNegOf (C : Addr) : Sp := fun vs H Q _ => ∃ (a : Addr) (ts : Tms), vs = [.ref a] ∧ FormAt C H a ts ∧ Bd 40 200 ts ∧ Nm ts ∧
  ∀ c H' rs, Same H H' → FormAt C H' c rs → Nm rs → (∀ s, cf rs s = cf ts s * (-1)) → (∀ q ∈ rs, q.1 ∈ ts.map (·.1)) → Q (.ref c) H'
section
variable {P : Program} {w : World} {K : PySem.W.Frag} {mg : Str → Option Value} {base : Heap} {C : Addr}
theorem ok_multiple_of {f : Addr} {fd : FuncData} (F : Fun K "_multiple_of" "_multiple_of" s__multiple_of f fd) (T : Ta mg) (C0 : Fc K mg C) (c_form_of : Cal P w K mg base 5 "form_of" ["factors"] (spFormOf C)) : FnG P w K mg base 6 f fd ["form", "number"] (spMultOf C) := by
  refine okG F sc__multiple_of (fun vs H Q E h => ?_) (fun cdv A outer s H vs Q hr h => ?_)
  · obtain ⟨a, n, ts, rfl, _⟩ := h
    rfl
  · obtain ⟨a, n, ts, rfl, ⟨dx, t, u, ha, ⟨ps, ht, hp⟩, hu⟩, ⟨l1, b1⟩, n1, hn, k⟩ := h
    refine ⟨_, (pss_one (ps_ret (pe_c c_form_of hr (by decide) rfl (pa_cons (pe_dc (own := [("symbol", 2), ("factor", 3)]) (g := gTup K 2 (gCons (gName 2) (gCons (gName 3) gNil))) (tt := tYes) rfl sc__multiple_of.nd (pi_tup (pe_fld (pv 0) rfl)) (blkOk_by (own := [("symbol", 2), ("factor", 3)]) (N := n__multiple_of) (sc := defScope s__multiple_of) (by decide +kernel)) (fun _ _ _ _ _ => pg_tup rfl (pgs_cons (pg_name (i := 2) sc__multiple_of.nd rfl (Or.inl rfl)) (pgs_cons (pg_name (i := 3) sc__multiple_of.nd rfl (Or.inl rfl)) pgs_nil))) (fun _ _ _ _ _ => pts_nil) (fun _ _ _ _ _ => (pv 2)) (fun _ _ _ _ _ => (pe_op op_mulW (pv 3) (pv 1)))) pa_nil)))), ?_⟩
    have nd1 := asc_nodup n1.asc
    have lps := hp.len
    refine ⟨_, rfl, a, C, dx, _, _, rfl, ha, C0.cls, C0.nT, rfl, t, rfl, ⟨_, ht.sq⟩, fun D hD => dc_tup (K := K) (a := t) (xs := ps.map V.ref) (fun i H' => (∀ b o, H b = some o → H' b = some o) ∧ H' D = some (.dK ((mulE (ts.take i) n).map entK))) ⟨Same.new hD, upd_same⟩ (fun i H' _ ⟨s', _⟩ => (ht.same s').sq) (fun i x H2 hi ⟨s2, hd2⟩ => ?_) fun H2 ⟨s2, hd2⟩ => ?_⟩
    · obtain ⟨p, q, rfl, hiq, hpq⟩ := hp.get hi
      obtain ⟨s, g⟩ := q
      have gb := b1 _ (List.mem_of_getElem? hiq)
      have li : i < ts.length := (List.getElem?_eq_some_iff.mp hiq).1
      have nin := take_nin nd1 hiq
      rw [← mul_keys (ts.take i) n] at nin
      refine ⟨p, _, rfl, SqT.of (s2 _ _ hpq), rfl, _, _, rfl, _, _, rfl, rfl, rfl, _, rfl, _, rfl, _, rfl, _, _, rfl, rfl, wide_mul gb hn (by decide) (by decide) (by decide), _, Sum.inr s, rfl, hd2, ?_, fun b o e => ?_, ?_⟩
      · unfold mulE
        rw [List.length_map, List.length_map]
        exact Nat.lt_of_le_of_lt (Nat.le_trans (List.length_take_le _ _) (show i ≤ 1000 by omega)) (by decide)
      · rw [upd_ne (ne_of_none e hD)]
        exact s2 _ _ e
      · rw [upd_same, put_ent, mul_take hiq, show putE (mulE (ts.take i) n) s (g * n) = _ from if_neg nin]
    · rw [List.length_map, lps, List.take_length] at hd2
      refine ⟨D, mulE ts n, rfl, hd2, by rw [mul_keys]; exact nd1, by unfold mulE; rw [List.length_map]; omega, fun c H3 rs s3 hf nm hcf hmem => k c H3 rs (fun b o e => s3 _ _ (s2 _ _ e)) hf nm (fun s => by rw [hcf, cf_mul]) fun q m => ?_⟩
      have : q.1 ∈ (mulE ts n).map (·.1) := List.mem_map_of_mem (hmem q m)
      rwa [mul_keys] at this
theorem ok_check_form {f : Addr} {fd : FuncData} (F : Fun K "check_form" "check_form" s_check_form f fd) (T : Ta mg) (C0 : Fc K mg C) : FnG P w K mg base 1 f fd ["value"] (spUnit C) := by
  refine okG F sc_check_form (fun vs H Q E h => ?_) (fun cdv A outer s H vs Q hr h => ?_)
  · obtain ⟨a, rfl, _⟩ := h
    rfl
  · obtain ⟨a, rfl, ⟨dx, fs, ha⟩, k⟩ := h
    refine ⟨_, (pss_one (ps_if (pt_not (pt_val (pe_callB (C8.call_isC C0.isc) (by rfl) T.b_isinstance (by decide +kernel) (pa_cons (pv 0) (pa_cons (pe_gl (v := .ref C) rfl C0.g_Form) pa_nil)))))
    (pss_one ps_dead)
    pss_nil)), ?_⟩
    exact ⟨_, rfl, a, dx, fs, rfl, ha, _, rfl, iteF k⟩
variable (c_check_form : Cal P w K mg base 1 "check_form" ["value"] (spUnit C)) (c__sum_of : Cal P w K mg base 6 "_sum_of" ["first", "second", "number"] (spSumOf C)) (c__multiple_of : Cal P w K mg base 6 "_multiple_of" ["form", "number"] (spMultOf C))
include c_check_form c__sum_of in
theorem ok_add {f : Addr} {fd : FuncData} (F : Fun K "__add__" "Form.__add__" s_Form_add f fd) : FnG P w K mg base 7 f fd ["self", "other"] (spOpOf C 1) := by
  refine okG F sc_Form_add (fun vs H Q E h => ?_) (fun cdv A outer s H vs Q hr h => ?_)
  · obtain ⟨a, b, ts, us, rfl, _⟩ := h
    rfl
  · obtain ⟨a, b, ts, us, rfl, ha, hb, b1, b2, n1, n2, k⟩ := h
    refine ⟨_, (pss_cons (ps_expr (pe_c c_check_form hr (by decide) rfl (pa_cons (pv 1) pa_nil)))
  (pss_one (ps_ret (pe_c c__sum_of hr (by decide) rfl (pa_cons (pv 0) (pa_cons (pv 1) (pa_cons pe_int pa_nil))))))), ?_⟩
    exact ⟨_, rfl, b, rfl, hb.is, _, rfl, _, rfl, a, b, 1, ts, us, rfl, ha, hb, b1, b2, n1, n2, by decide, k⟩
include c_check_form c__sum_of in
theorem ok_sub {f : Addr} {fd : FuncData} (F : Fun K "__sub__" "Form.__sub__" s_Form_sub f fd) : FnG P w K mg base 7 f fd ["self", "other"] (spOpOf C (-1)) := by
  refine okG F sc_Form_sub (fun vs H Q E h => ?_) (fun cdv A outer s H vs Q hr h => ?_)
  · obtain ⟨a, b, ts, us, rfl, _⟩ := h
    rfl
  · obtain ⟨a, b, ts, us, rfl, ha, hb, b1, b2, n1, n2, k⟩ := h
    refine ⟨_, (pss_cons (ps_expr (pe_c c_check_form hr (by decide) rfl (pa_cons (pv 1) pa_nil)))
  (pss_one (ps_ret (pe_c c__sum_of hr (by decide) rfl (pa_cons (pv 0) (pa_cons (pv 1) (pa_cons (pe_un un_neg pe_int) pa_nil))))))), ?_⟩
    exact ⟨_, rfl, b, rfl, hb.is, _, rfl, _, rfl, _, rfl, a, b, -1, ts, us, rfl, ha, hb, b1, b2, n1, n2, by decide, k⟩
include c__multiple_of in
theorem ok_neg {f : Addr} {fd : FuncData} (F : Fun K "__neg__" "Form.__neg__" s_Form_neg f fd) : FnG P w K mg base 7 f fd ["self"] (spNegOf C) := by
  refine okG F sc_Form_neg (fun vs H Q E h => ?_) (fun cdv A outer s H vs Q hr h => ?_)
  · obtain ⟨a, ts, rfl, _⟩ := h
    rfl
  · obtain ⟨a, ts, rfl, ha, b1, n1, k⟩ := h
    refine ⟨_, (pss_one (ps_ret (pe_c c__multiple_of hr (by decide) rfl (pa_cons (pv 0) (pa_cons (pe_un un_neg pe_int) pa_nil))))), ?_⟩
    exact ⟨_, rfl, _, rfl, a, -1, ts, rfl, ha, b1, n1, by decide, k⟩
include c__multiple_of in
theorem ok_mul {f : Addr} {fd : FuncData} (F : Fun K "__mul__" "Form.__mul__" s_Form_mul f fd) (c_is_integer : Cal P w K mg base 1 "is_integer" ["value"] (spB K Tr.whole)) : FnG P w K mg base 7 f fd ["self", "other"] (spMultOf C) := by
  refine okG F sc_Form_mul (fun vs H Q E h => ?_) (fun cdv A outer s H vs Q hr h => ?_)
  · obtain ⟨a, n, ts, rfl, _⟩ := h
    rfl
  · obtain ⟨a, n, ts, rfl, ha, b1, n1, hn, k⟩ := h
    refine ⟨_, (pss_cons (ps_if (pt_not (pt_val (pe_c c_is_integer hr (by decide) rfl (pa_cons (pv 1) pa_nil))))
    (pss_one ps_dead)
    pss_nil)
  (pss_one (ps_ret (pe_c c__multiple_of hr (by decide) rfl (pa_cons (pv 0) (pa_cons (pv 1) pa_nil)))))), ?_⟩
    refine ⟨_, rfl, .int n, .int n, rfl, .int n, fun H1 s1 => ⟨_, rfl, iteF ⟨_, rfl, _, rfl, a, n, ts, rfl, ha.same s1, b1, n1, hn, fun c H' rs s2 => k c H' rs (s1.trans s2)⟩⟩⟩
end
end Lw

/-! ## FmE -/
set_option maxHeartbeats 1000000
namespace Lw
open PySem PySem.Spec PyProof.Rows L2
open Fm (cf Asc Nm)
abbrev s__pieces_of : Stmt := topS 37
abbrev n__pieces_of : List Str := ["terms", "pieces", "symbol", "factor"]
theorem sc__pieces_of : FnScope n__pieces_of ["terms"] (defScope s__pieces_of) := ⟨rfl, rfl, rfl, by decide +kernel, rfl, by decide +kernel, by decide +kernel⟩
abbrev s_Form_str : Stmt := inClass (topS 26) 9
abbrev n_Form_str : List Str := ["self"]
theorem sc_Form_str : FnScope n_Form_str ["self"] (defScope s_Form_str) := ⟨rfl, rfl, rfl, by decide +kernel, rfl, by decide +kernel, by decide +kernel⟩
def tMidS (t : TS) : TS := fun (D : Ends) (σ : L2.St) (H : Hp) => ∃ R : L2.St → Hp → Prop, t { D with nx := R } σ H ∧ ∀ σ' H', R σ' H' → D.nx σ' H'
/-- a statement whose ways are joined -/
theorem ps_mid {X : Cx} {st : Stmt} {t : TS} (h : PS X st t) : PS X st (tMidS t) := ⟨fun pins s σ H D I q => by
  obtain ⟨R, h1, h2⟩ := q
  refine wpAny_mono (h.run pins s σ H { D with nx := R } I h1) (fun fl s' z => ?_) fun _ _ z => z
  cases fl with
  | next =>
    obtain ⟨σ', H', J, r⟩ := z
    exact ⟨σ', H', J, h2 _ _ r⟩
  | brk => exact z
  | cont => exact z
  | ret u => exact z⟩
/-! ### the pieces of a text -/
def pcStep (l : List Str) (q : Str × Int) : List Str := l ++ (if l = [] then (if q.2 < 0 then [("-" : Str)] else []) else [Fm.sgnM q.2]) ++ [Fm.wordS q.1 q.2]
theorem pcs_snoc : ∀ (ts : Tms) (l : List Str) (q : Str × Int), Fm.pcsS l (ts ++ [q]) = pcStep (Fm.pcsS l ts) q
  | [], l, q => rfl
  | (s, f) :: r, l, q => pcs_snoc r _ q
theorem pcs_take {ts : Tms} {i : Nat} {q : Str × Int} (h : ts[i]? = some q) : Fm.pcsS [] (ts.take (i + 1)) = pcStep (Fm.pcsS [] (ts.take i)) q := by
  rw [List.take_add_one, h]
  exact pcs_snoc _ _ _
theorem pcs_len : ∀ (ts : Tms) (l : List Str), (Fm.pcsS l ts).length ≤ l.length + 2 * ts.length
  | [], l => by simp [Fm.pcsS]
  | (s, f) :: r, l => by
    have h := pcs_len r (l ++ (if l = [] then (if f < 0 then [("-" : Str)] else []) else [Fm.sgnM f]) ++ [Fm.wordS s f])
    have : (if l = [] then (if f < 0 then [("-" : Str)] else []) else [Fm.sgnM f]).length ≤ 1 := by
      split
      · split <;> simp
      · simp
    simp only [List.length_append, List.length_cons, List.length_nil] at h ⊢
    show (Fm.pcsS _ r).length ≤ _
    omega
theorem pcs_mem {z : Str} : ∀ (ts : Tms) (l : List Str), z ∈ Fm.pcsS l ts → z ∈ l ∨ z = "-" ∨ (∃ f, z = Fm.sgnM f) ∨ ∃ q ∈ ts, z = Fm.wordS q.1 q.2
  | [], l, h => .inl h
  | (s, f) :: r, l, h => by
    rcases pcs_mem r _ h with h | h | h | ⟨q, hq, e⟩
    · rcases List.mem_append.mp h with h | h
      · rcases List.mem_append.mp h with h | h
        · exact .inl h
        · split at h
          · split at h
            · exact .inr (.inl (List.mem_singleton.mp h))
            · cases h
          · exact .inr (.inr (.inl ⟨f, List.mem_singleton.mp h⟩))
      · exact .inr (.inr (.inr ⟨(s, f), List.mem_cons_self, List.mem_singleton.mp h⟩))
    · exact .inr (.inl h)
    · exact .inr (.inr (.inl h))
    · exact .inr (.inr (.inr ⟨q, List.mem_cons_of_mem _ hq, e⟩))
theorem log_of {f : Int} (h : f.natAbs < 2 ^ 1000) : (if f < 0 then -f else f).natAbs.log2 < 1920 := by
  have e : (if f < 0 then -f else f).natAbs = f.natAbs := by split <;> omega
  rw [e]
  exact Nat.lt_of_lt_of_le (PySem.Flt.log2_lt_of (by decide) h) (by decide)
theorem num_len {f : Int} (h : f.natAbs < 2 ^ 1000) : (Fm.numS f).length ≤ 1921 := int_text_len_1921 (log_of h)
theorem empty_app (x : Str) : Str.empty ++ x = x := Fm.str_ext (by
  show (Str.empty.cps ++ x.cps).toList = x.cps.toList
  rw [Array.toList_append]
  rfl)
theorem word_len {s : Str} {f : Int} (hs : s.length ≤ 8) (h : f.natAbs < 2 ^ 1000) : (Fm.wordS s f).length ≤ 1930 := by
  unfold Fm.wordS
  split
  · omega
  · have h1 := num_len h
    have e : (Fm.numS f ++ Fm.starS ++ s).length = (Fm.numS f).length + 1 + s.length := by
      show ((_ ++ _ : Array Nat) ++ _).size = _
      rw [Array.size_append, Array.size_append]
      rfl
    omega
/-- symbols of at most eight signs, of those that are read -/
def SyB (ts : Tms) : Prop := ∀ q ∈ ts, q.1.length ≤ 8 ∧ Fm.SyOk q.1
def spPieces : Sp := fun vs H Q _ => ∃ (t : Addr) (ts : Tms), vs = [.ref t] ∧ TermsAt H t ts ∧ Bd 60 1000 ts ∧ SyB ts ∧ ∀ p H', Same H H' → H p = none → H' p = some (.lst ((Fm.pcsS [] ts).map V.str)) → Q (.ref p) H'
section
variable {P : Program} {w : World} {K : PySem.W.Frag} {mg : Str → Option Value} {base : Heap} {C : Addr}
theorem ok_pieces_of {f : Addr} {fd : FuncData} (F : Fun K "_pieces_of" "_pieces_of" s__pieces_of f fd) (T : Ta mg) : FnG P w K mg base 1 f fd ["terms"] spPieces := by
  refine okG F sc__pieces_of (fun vs H Q E h => ?_) (fun cdv A outer s H vs Q hr h => ?_)
  · obtain ⟨t, ts, rfl, _⟩ := h
    rfl
  · obtain ⟨t, ts, rfl, ⟨ps, ht, hp⟩, ⟨bl, bb⟩, sy, k⟩ := h
    refine ⟨_, (pss_cons (ps_set (i := 1) sc__pieces_of.nd rfl (by first | exact .inl rfl | exact .inr rfl) (pe_lstS pa_nil))
  (pss_cons (ps_for PassesOwn.never rfl (pi_tup (pv 0)) (pg_tup rfl (pgs_cons (pg_name (i := 2) sc__pieces_of.nd rfl (by first | exact .inl rfl | exact .inr rfl)) (pgs_cons (pg_name (i := 3) sc__pieces_of.nd rfl (by first | exact .inl rfl | exact .inr rfl)) pgs_nil)))
    (pss_cons (ps_mid (ps_if (pt_truth (pv 1) (by intro _; rfl))
    (pss_one (ps_expr (pe_bm PySem.F.plainAttrs_list PySem.F.slot_list_append PySem.F.type_list_append mt_append (pv 1) (pa_cons (pe_mid (pe_ifExp (pt_cmpR op_lt (pv 3) pe_int (nomark _)) pe_str pe_str)) pa_nil))))
    (pss_one (ps_mid (ps_if (pt_cmpR op_lt (pv 3) pe_int (nomark _))
    (pss_one (ps_expr (pe_bm PySem.F.plainAttrs_list PySem.F.slot_list_append PySem.F.type_list_append mt_append (pv 1) (pa_cons pe_str pa_nil))))
    pss_nil)))))
  (pss_one (ps_expr (pe_bm PySem.F.plainAttrs_list PySem.F.slot_list_append PySem.F.type_list_append mt_append (pv 1) (pa_cons (pe_mid (pe_ifExp (pt_cmpR op_eq (pe_callB call_abs (by rfl) T.b_abs (by decide +kernel) (pa_cons (pv 3) pa_nil)) pe_int (nomark _)) (pv 2) (pe_joined (PJ.cons (pe_fmt (pe_callB call_abs (by rfl) T.b_abs (by decide +kernel) (pa_cons (pv 3) pa_nil))) (PJ.cons pe_str (PJ.cons (pe_fmt (pv 2)) PJ.nil)))))) pa_nil))))))
  (pss_one (ps_ret (pv 1))))), ?_⟩
    have lps := hp.len
    refine ⟨Nat.zero_le _, fun L H1 nL s1 h1 => ?_⟩
    refine ⟨_, rfl, t, rfl, ⟨_, (ht.same s1).sq⟩, for_tup (K := K) (a := t) (xs := ps.map V.ref) (fun i σ H' => ∃ (x2 x3 : Option V), σ = [some (.ref t), some (.ref L), x2, x3] ∧ Same H H' ∧ H' L = some (.lst ((Fm.pcsS [] (ts.take i)).map V.str)))
      ⟨_, _, rfl, s1, h1⟩ (fun i σ H' _ ⟨_, _, _, s', _⟩ => (ht.same s').sq) ?_ ?_⟩
    · rintro i x σ H2 hi ⟨x2, x3, rfl, s2, hL⟩
      obtain ⟨p, q, rfl, hiq, hpq⟩ := hp.get hi
      obtain ⟨sy1, g⟩ := q
      have li : i < ts.length := (List.getElem?_eq_some_iff.mp hiq).1
      have gb : g.natAbs < 2 ^ 1000 := bb _ (List.mem_of_getElem? hiq)
      have sl : sy1.length ≤ 8 := (sy _ (List.mem_of_getElem? hiq)).1
      have lp := pcs_len (ts.take i) []
      have lt2 : (ts.take i).length ≤ 60 := Nat.le_trans (List.length_take_le _ _) (by omega)
      have lp : (Fm.pcsS [] (ts.take i)).length ≤ 120 := by simp only [List.length_nil] at lp; omega
      generalize hl : Fm.pcsS [] (ts.take i) = l at hL lp
      have big : ∀ {n : Nat}, n ≤ 1000 → n ≤ sizeLine := fun h => Nat.le_trans h (by decide)
      have st2 : ∀ (H' : Hp), (∀ b o, b ≠ L → H2 b = some o → H' b = some o) → Same H H' := fun H' k b o e => k b o (ne_of_none e nL) (s2 _ _ e)
      refine ⟨p, _, rfl, SqT.of (s2 _ _ hpq), rfl, _, _, rfl, _, _, rfl, rfl, ?_⟩
      refine ⟨fun σ' H' => σ' = [some (.ref t), some (.ref L), some (.str sy1), some (.int g)] ∧ (∀ b o, b ≠ L → H2 b = some o → H' b = some o) ∧ H' L = some (.lst ((l ++ (if l = [] then (if g < 0 then [("-" : Str)] else []) else [Fm.sgnM g])).map V.str)), ?_, ?_⟩
      · refine ⟨_, rfl, !(l.map V.str).isEmpty, .inl ⟨_, SqL.of hL, rfl⟩, ite2 (fun hne => ?_) fun he => ?_⟩
        · have ne : l ≠ [] := fun e => by rw [e] at hne; exact absurd hne (by decide)
          rw [if_neg ne]
          refine ⟨_, rfl, .inl ⟨rfl, _, SqL.of hL⟩, fun v H' => v = .str (Fm.sgnM g) ∧ H' = H2, ⟨_, rfl, _, _, rfl, rfl, _, rfl, ite2 (fun hg => ?_) fun hg => ?_⟩, ?_⟩
          · rw [show Fm.sgnM g = " - " from if_pos (of_decide_eq_true hg)]
            exact ⟨rfl, rfl⟩
          · rw [show Fm.sgnM g = " + " from if_neg (fun q => hg (decide_eq_true q))]
            exact ⟨rfl, rfl⟩
          · rintro v H' ⟨rfl, rfl⟩
            refine ⟨L, _, _, rfl, rfl, hL, ?_, rfl, fun b o n e => ?_, ?_⟩
            · rw [List.length_map]
              exact Nat.lt_of_le_of_lt (show l.length ≤ 1000 by omega) (by decide)
            · rw [upd_ne n]
              exact e
            · rw [upd_same, List.map_append]
              rfl
        · have em : l = [] := by
            cases l with
            | nil => rfl
            | cons a b => exact absurd (show (!(List.map V.str (a :: b)).isEmpty) = true from rfl) he
          rw [if_pos em]
          refine ⟨fun σ' H' => σ' = [some (.ref t), some (.ref L), some (.str sy1), some (.int g)] ∧ (∀ b o, b ≠ L → H2 b = some o → H' b = some o) ∧ H' L = some (.lst ((l ++ (if g < 0 then [("-" : Str)] else [])).map V.str)), ⟨_, rfl, _, _, rfl, rfl, _, rfl, ite2 (fun hg => ?_) fun hg => ?_⟩, fun σ' H' z => z⟩
          · rw [if_pos (of_decide_eq_true hg)]
            refine ⟨_, rfl, .inl ⟨rfl, _, SqL.of hL⟩, L, _, _, rfl, rfl, hL, ?_, rfl, fun b o n e => ?_, ?_⟩
            · rw [List.length_map]
              exact Nat.lt_of_le_of_lt (show l.length ≤ 1000 by omega) (by decide)
            · rw [upd_ne n]
              exact e
            · rw [upd_same, List.map_append]
              rfl
          · rw [if_neg (fun q => hg (decide_eq_true q)), List.append_nil]
            exact ⟨rfl, fun _ _ _ e => e, hL⟩
      · rintro σ' H3 ⟨rfl, s3, hL3⟩
        have wl := word_len sl gb
        have l3 : (l ++ (if l = [] then (if g < 0 then [("-" : Str)] else []) else [Fm.sgnM g])).length ≤ 200 := by
          have : (if l = [] then (if g < 0 then [("-" : Str)] else []) else [Fm.sgnM g]).length ≤ 1 := by
            split
            · split <;> simp
            · simp
          rw [List.length_append]
          omega
        refine ⟨_, rfl, .inl ⟨rfl, _, SqL.of hL3⟩, fun v H' => v = .str (Fm.wordS sy1 g) ∧ H' = H3, ⟨_, rfl, g, rfl, rfl, _, rfl, ite2 (fun h1 => ?_) fun h1 => ?_⟩, ?_⟩
        · have e : Fm.absI g = 1 := by simpa [Fm.absI] using h1
          exact ⟨_, rfl, by rw [show Fm.wordS sy1 g = sy1 from if_pos e], rfl⟩
        · have e : ¬ Fm.absI g = 1 := by simpa [Fm.absI] using h1
          have ew : Str.empty ++ Fm.numS g ++ ("*" : Str) ++ sy1 = Fm.wordS sy1 g := by
            rw [empty_app]
            exact (if_neg e).symm
          have lw : ∀ {a b : Str}, (a ++ b).length = a.length + b.length := fun {a b} => by
            show (_ ++ _ : Array Nat).size = _
            rw [Array.size_append]
            rfl
          have ln := num_len gb
          refine ⟨_, rfl, g, rfl, .inr ⟨_, rfl, log_of gb, Fm.numS g, rfl, ?_, "*", rfl, ?_, _, rfl, .inl ⟨sy1, rfl, big (by omega), sy1, rfl, ?_, ?_⟩⟩⟩
          · rw [empty_app]
            exact Nat.le_trans ln (by decide)
          · rw [empty_app, lw]
            exact Nat.le_trans (show (Fm.numS g).length + 1 ≤ 2000 by omega) (by decide)
          · rw [ew]
            exact Nat.le_trans wl (by decide)
          · exact ⟨congrArg V.str ew, rfl⟩
        · rintro v H' ⟨rfl, rfl⟩
          refine ⟨L, _, _, rfl, rfl, hL3, ?_, _, _, rfl, st2 _ fun b o n e => ?_, ?_⟩
          · rw [List.length_map]
            exact Nat.lt_of_le_of_lt (show _ ≤ 1000 by omega) (by decide)
          · rw [upd_ne n]
            exact s3 _ _ n e
          · rw [upd_same, pcs_take hiq, hl]
            show _ = some (HO.lst (((l ++ (if l = [] then (if g < 0 then [("-" : Str)] else []) else [Fm.sgnM g])) ++ [Fm.wordS sy1 g]).map V.str))
            generalize l ++ (if l = [] then (if g < 0 then [("-" : Str)] else []) else [Fm.sgnM g]) = m
            rw [List.map_append]
            rfl
    · rintro σ H2 ⟨x2, x3, rfl, s2, hL⟩
      rw [List.length_map, lps, List.take_length] at hL
      exact ⟨_, rfl, k L H2 s2 nL hL⟩
/-- the text of a form -/
def spStr (C : Addr) : Sp := fun vs H Q _ => ∃ (a : Addr) (ts : Tms), vs = [.ref a] ∧ FormAt C H a ts ∧ Bd 60 1000 ts ∧ SyB ts ∧ ∀ H', Same H H' → Q (.str (Fm.textS ts)) H'
theorem pcs_sum {ts : Tms} (b : Bd 60 1000 ts) (sy : SyB ts) : ((Fm.pcsS [] ts).map (·.length)).sum ≤ 1930 * 120 := by
  have h1 : ∀ z ∈ Fm.pcsS [] ts, z.length ≤ 1930 := fun z hz => by
    rcases pcs_mem ts [] hz with h | h | ⟨f, h⟩ | ⟨q, hq, h⟩
    · cases h
    · rw [h]
      decide
    · rw [h]
      unfold Fm.sgnM
      split <;> decide
    · rw [h]
      exact word_len (sy q hq).1 (b.lt q hq)
  have h2 : ∀ l : List Str, (∀ z ∈ l, z.length ≤ 1930) → (l.map (·.length)).sum ≤ 1930 * l.length := by
    intro l
    induction l with
    | nil => exact fun _ => Nat.le_refl 0
    | cons x r ih =>
      intro h
      have := ih fun z m => h z (List.mem_cons_of_mem _ m)
      have := h x List.mem_cons_self
      simp only [List.map_cons, List.sum_cons, List.length_cons]
      omega
  have h3 := h2 _ h1
  have h4 := pcs_len ts []
  have h5 := b.len
  simp only [List.length_nil] at h4
  omega
theorem ok_str {f : Addr} {fd : FuncData} (F : Fun K "__str__" "Form.__str__" s_Form_str f fd) (C0 : Fc K mg C) (c__pieces_of : Cal P w K mg base 1 "_pieces_of" ["terms"] spPieces) : FnG P w K mg base 2 f fd ["self"] (spStr C) := by
  refine okG F sc_Form_str (fun vs H Q E h => ?_) (fun cdv A outer s H vs Q hr h => ?_)
  · obtain ⟨a, ts, rfl, _⟩ := h
    rfl
  · obtain ⟨a, ts, rfl, ⟨dx, t, u, ha, ht, hu⟩, b, sy, k⟩ := h
    refine ⟨_, (pss_cons (ps_if (pt_not (pt_truth (pe_fld (pv 0) rfl) (by intro _; rfl)))
    (pss_one (ps_ret pe_str))
    pss_nil)
  (pss_one (ps_ret (pe_bm PySem.F.plainAttrs_str PySem.F.slot_str_join PySem.F.type_str_join mt_join pe_str (pa_cons (pe_c c__pieces_of hr (by decide) rfl (pa_cons (pe_fld (pv 0) rfl) pa_nil)) pa_nil))))), ?_⟩
    have sh := Fm.shown_text (ts := ts) fun q m => (sy q m).2.ne
    obtain ⟨ps, hf, hp⟩ := id ht
    refine ⟨_, rfl, a, C, dx, _, _, rfl, ha, C0.cls, C0.nT, rfl, !(ps.map V.ref).isEmpty, .inr (.inl ⟨_, hf.sq, rfl⟩), ?_⟩
    cases hts : ts with
    | nil =>
      subst hts
      cases hp
      refine iteT ?_
      have := k H (Same.refl H)
      rw [← sh] at this
      exact this
    | cons q r =>
      rw [hts] at hp
      cases hp with
      | cons h1 h2 =>
        refine iteF ?_
        refine ⟨rfl, _, rfl, a, C, dx, _, _, rfl, ha, C0.cls, C0.nT, rfl, t, ts, rfl, ht, b, sy, fun p H1 s1 np hp1 => ⟨_, p, _, rfl, rfl, .inl (SqL.of hp1), ?_, ?_⟩⟩
        · have := pcs_sum b sy
          show _ + _ * 0 ≤ _
          omega
        · have := k H1 s1
          rw [← sh, Fm.shownS, if_neg (by rw [hts]; simp)] at this
          exact this
end
end Lw

/-! ## FmF -/
set_option maxHeartbeats 1000000
namespace Lw
open PySem PySem.Spec PyProof.Rows L2
open Fm (cf Asc Nm)
abbrev s_number_in_text : Stmt := topS 31
abbrev n_number_in_text : List Str := ["digits"]
theorem sc_number_in_text : FnScope n_number_in_text ["digits"] (defScope s_number_in_text) := ⟨rfl, rfl, rfl, by decide +kernel, rfl, by decide +kernel, by decide +kernel⟩
abbrev s__term_in_text : Stmt := topS 32
abbrev n__term_in_text : List Str := ["word", "sign", "digits", "star", "symbol", "number"]
theorem sc__term_in_text : FnScope n__term_in_text ["word"] (defScope s__term_in_text) := ⟨rfl, rfl, rfl, by decide +kernel, rfl, by decide +kernel, by decide +kernel⟩
def spNum : Sp := fun vs H Q _ => ∃ (z : Str) (n : Int), vs = [.str z] ∧ PySem.intText? z = some n ∧ z.length ≤ 640 ∧ Q (.int n) H
/-- a factor that is read -/
structure Fa99 (f : Int) : Prop where
  nz : f ≠ 0
  le : f.natAbs < 2 ^ 110
/-- terms that are read -/
def Rd99 (ts : Tms) : Prop := ∀ q ∈ ts, (q.1.length ≤ 8 ∧ Fm.SyOk q.1) ∧ (Tr.str q.1).sym = true ∧ Fa99 q.2
theorem num_head {f : Int} : ∃ c r, TL.tl (Fm.numS f) = c :: r ∧ 48 ≤ c ∧ c ≤ 57 := by
  unfold Fm.numS
  obtain ⟨n, hn⟩ := Int.eq_ofNat_of_zero_le (Fm.absI_nonneg f)
  rw [hn, TL.tl_num]
  unfold TL.numL
  cases e : Nat.toDigits 10 n with
  | nil => exact absurd e (by
      have := Nat.length_toDigits_pos (b := 10) (n := n)
      intro z
      rw [z] at this
      exact absurd this (by decide))
  | cons ch r =>
    refine ⟨ch.toNat, _, rfl, ?_⟩
    have : ch.isDigit = true := Nat.isDigit_of_mem_toDigits (b := 10) (n := n) (by decide) (by decide) (by rw [e]; exact List.mem_cons_self)
    exact PyProof.Rows.digit_range this
theorem word_head {s : Str} (h : Fm.SyOk s) (f : Int) : ∃ c, (TL.tl (Fm.wordS s f)).head? = some c ∧ c ≠ 45 := by
  unfold Fm.wordS
  split
  · cases e : TL.tl s with
    | nil => exact absurd e h.ne
    | cons c r => exact ⟨c, rfl, h.mi c (by rw [e]; rfl)⟩
  · obtain ⟨c, r, e, h1, h2⟩ := num_head (f := f)
    rw [TL.tl_append, TL.tl_append, e]
    exact ⟨c, rfl, by omega⟩
theorem starts_word {s : Str} (h : Fm.SyOk s) (f : Int) : Txt.startswith (Fm.wordS s f) "-" = false := by
  rw [Fm.starts_iff (c := 45) rfl]
  obtain ⟨c, e, n⟩ := word_head h f
  rw [e]
  exact decide_eq_false fun z => n (Option.some.inj z)
theorem starts_sgn {s : Str} (h : Fm.SyOk s) (f : Int) : Txt.startswith (Fm.sgn1 f ++ Fm.wordS s f) "-" = decide (f < 0) := by
  rw [Fm.starts_iff (c := 45) rfl]
  unfold Fm.sgn1
  by_cases g : f < 0
  · rw [if_pos g, decide_eq_true g, TL.tl_append]
    exact decide_eq_true rfl
  · rw [if_neg g, decide_eq_false g, TL.tl_append]
    obtain ⟨c, e, n⟩ := word_head h f
    show decide ((TL.tl (Fm.wordS s f)).head? = some 45) = false
    rw [e]
    exact decide_eq_false fun z => n (Option.some.inj z)
theorem cut1 (z : Str) : cutS (("-" : Str) ++ z) (some 1) none = z := by
  refine Fm.str_ext ?_
  show (((("-" : Str) ++ z).cps.toList.drop (HT.sIx (("-" : Str) ++ z).length 0 (some 1))).take (HT.sIx (("-" : Str) ++ z).length (("-" : Str) ++ z).length none - HT.sIx (("-" : Str) ++ z).length 0 (some 1))).toArray.toList = _
  have l : (("-" : Str) ++ z).length = z.length + 1 := by
    show (_ ++ _ : Array Nat).size = _
    rw [Array.size_append]
    exact Nat.add_comm 1 z.cps.size
  have e1 : HT.sIx (("-" : Str) ++ z).length 0 (some 1) = 1 := by
    rw [l, show (1 : Int) = ((1 : Nat) : Int) from rfl, HT.sIx_nat]
    omega
  have e2 : HT.sIx (("-" : Str) ++ z).length (("-" : Str) ++ z).length none = z.length + 1 := by
    rw [l]
    rfl
  rw [e1, e2, List.toList_toArray]
  have e3 : (("-" : Str) ++ z).cps.toList = 45 :: z.cps.toList := TL.tl_append _ _
  rw [e3, List.drop_one, List.tail_cons, List.take_of_length_le]
  have a1 : z.cps.toList.length = z.cps.size := Array.length_toList
  exact Nat.le_of_eq a1
theorem fa_word {s : Str} {f : Int} (hs : s.length ≤ 8) (h : Fa99 f) : (Fm.wordS s f).length ≤ 1930 := word_len hs (Nat.lt_of_lt_of_le h.le (Nat.pow_le_pow_right (by decide) (by decide)))
theorem big110 : (2 : Nat) ^ 110 < 10 ^ 34 := by decide +kernel
theorem abs110 {f : Int} (h : f.natAbs < 2 ^ 110) : Fm.absI f < 10 ^ 34 := by
  have k := Nat.lt_trans h big110
  have e : Fm.absI f = (f.natAbs : Int) := by
    unfold Fm.absI
    split <;> omega
  rw [e]
  exact_mod_cast k
theorem fa_num {f : Int} (h : Fa99 f) : (Fm.numS f).length ≤ 640 := Nat.le_trans (toString_length_le (v := Fm.absI f) (k := 34) (Fm.absI_nonneg f) (by decide) (abs110 h.le)) (by decide)
open PySem.NumText in
theorem num_readB {f : Int} (h : Fa99 f) : PySem.intText? (Fm.numS f) = some (Fm.absI f) := by
  have ll := fa_num h
  unfold Fm.numS at ll ⊢
  obtain ⟨m, em⟩ := Int.eq_ofNat_of_zero_le (Fm.absI_nonneg f)
  rw [em] at ll ⊢
  have sg := PySem.W.KIN.signs_num m
  have dg : AllDigits (Str.ofString (toString ((m : Nat) : Int))).cps.toList := fun c hc => by
    rw [sg] at hc
    obtain ⟨d, hd, rfl⟩ := List.mem_map.mp hc
    exact digit_range (Nat.isDigit_of_mem_toDigits (by decide) (by decide) hd)
  have ne : (Str.ofString (toString ((m : Nat) : Int))).cps.toList ≠ [] := fun e => by
    rw [sg] at e
    have := Nat.length_toDigits_pos (b := 10) (n := m)
    rw [List.map_eq_nil_iff.mp e] at this
    exact absurd this (by decide)
  rw [intText_digits dg ne (Nat.le_trans ll (by decide)), sg, PySem.W.KIN.val_back]
/-- the word with its sign if b -/
def wrdB (b : Bool) (s : Str) (f : Int) : Str := if b = true then Fm.sgn1 f ++ Fm.wordS s f else Fm.wordS s f
theorem wrd_starts {s : Str} (h : Fm.SyOk s) (b : Bool) (f : Int) : Txt.startswith (wrdB b s f) "-" = (b && decide (f < 0)) := by
  cases b with
  | true => exact starts_sgn h f
  | false => exact starts_word h f
theorem wrd_neg {s : Str} {b : Bool} {f : Int} (h : (b && decide (f < 0)) = true) : wrdB b s f = ("-" : Str) ++ Fm.wordS s f := by
  obtain ⟨h1, h2⟩ := Bool.and_eq_true_iff.mp h
  have h2 := of_decide_eq_true h2
  subst h1
  show Fm.sgn1 f ++ Fm.wordS s f = _
  rw [show Fm.sgn1 f = "-" from if_pos h2]
theorem wrd_pos {s : Str} {b : Bool} {f : Int} (h : (b && decide (f < 0)) = false) : wrdB b s f = Fm.wordS s f := by
  cases b with
  | false => rfl
  | true =>
    have h2 : ¬ f < 0 := of_decide_eq_false h
    show Fm.sgn1 f ++ Fm.wordS s f = _
    rw [show Fm.sgn1 f = "" from if_neg h2]
    exact empty_app _
theorem lenapp {a b : Str} : (a ++ b).length = a.length + b.length := by
  show (_ ++ _ : Array Nat).size = _
  rw [Array.size_append]
  rfl
theorem wrd_len {s : Str} {f : Int} (b : Bool) (hs : s.length ≤ 8) (h : Fa99 f) : (wrdB b s f).length ≤ 1931 := by
  have := fa_word hs h
  unfold wrdB
  split
  · rw [lenapp]
    have : (Fm.sgn1 f).length ≤ 1 := by
      unfold Fm.sgn1
      split <;> decide
    omega
  · omega
/-- the word of a term, with or without its sign -/
def spTerm : Sp := fun vs H Q _ => ∃ (s : Str) (f : Int) (b : Bool), vs = [.str (wrdB b s f)] ∧ s.length ≤ 8 ∧ Fm.SyOk s ∧ (Tr.str s).sym = true ∧ Fa99 f ∧
  ∀ p H', Same H H' → H' p = some (.tup [.str s, .int (if b = true then f else Fm.absI f)]) → Q (.ref p) H'
section
variable {P : Program} {w : World} {K : PySem.W.Frag} {mg : Str → Option Value} {base : Heap} {C : Addr}
theorem ok_number {f : Addr} {fd : FuncData} (F : Fun K "number_in_text" "number_in_text" s_number_in_text f fd) (T : Ta mg) : FnG P w K mg base 1 f fd ["digits"] spNum := by
  refine okG F sc_number_in_text (fun vs H Q E h => ?_) (fun cdv A outer s H vs Q hr h => ?_)
  · obtain ⟨z, n, rfl, _⟩ := h
    rfl
  · obtain ⟨z, n, rfl, hz, hl, k⟩ := h
    refine ⟨_, (pss_one (ps_try_thru0 (pss_one (ps_ret (pe_callTy call_int_str (by rfl) T.b_int (by decide +kernel) (pa_cons (pv 0) pa_nil)))))), ?_⟩
    exact ⟨_, rfl, z, n, rfl, hz, hl, k⟩
theorem ok_term {f : Addr} {fd : FuncData} (F : Fun K "_term_in_text" "_term_in_text" s__term_in_text f fd) (T : Ta mg) (c_number_in_text : Cal P w K mg base 1 "number_in_text" ["digits"] spNum) (c_is_symbol : Cal P w K mg base 2 "is_symbol" ["value"] (spB K Tr.sym)) : FnG P w K mg base 3 f fd ["word"] spTerm := by
  refine okG F sc__term_in_text (fun vs H Q E h => ?_) (fun cdv A outer s H vs Q hr h => ?_)
  · obtain ⟨z, f, b, rfl, _⟩ := h
    rfl
  · obtain ⟨z, f, b, rfl, hl, ok, sy, fa, k⟩ := h
    refine ⟨_, (pss_cons (ps_set (i := 1) sc__term_in_text.nd rfl (by first | exact .inl rfl | exact .inr rfl) pe_int)
  (pss_cons (ps_mid (ps_if (pt_val (pe_bm PySem.F.plainAttrs_str PySem.F.slot_str_startswith PySem.F.type_str_startswith mt_startswith (pv 0) (pa_cons pe_str pa_nil)))
    (pss_cons (ps_set (i := 1) sc__term_in_text.nd rfl (by first | exact .inl rfl | exact .inr rfl) (pe_un un_neg pe_int))
  (pss_one (ps_set (i := 0) sc__term_in_text.nd rfl (by first | exact .inl rfl | exact .inr rfl) (pe_slice sl_str (pv 0) (po_some pe_int) po_none))))
    pss_nil))
  (pss_cons (ps_asg (pe_rpartition (pv 0) pe_str) (pg_tup rfl (pgs_cons (pg_name (i := 2) sc__term_in_text.nd rfl (by first | exact .inl rfl | exact .inr rfl)) (pgs_cons (pg_name (i := 3) sc__term_in_text.nd rfl (by first | exact .inl rfl | exact .inr rfl)) (pgs_cons (pg_name (i := 4) sc__term_in_text.nd rfl (by first | exact .inl rfl | exact .inr rfl)) pgs_nil)))))
  (pss_cons (ps_set (i := 5) sc__term_in_text.nd rfl (by first | exact .inl rfl | exact .inr rfl) (pe_mid (pe_ifExp (pt_truth (pv 3) (by intro _; rfl)) (pe_c c_number_in_text hr (by decide) rfl (pa_cons (pv 2) pa_nil)) pe_int)))
  (pss_cons (ps_if (PW.pt (pw_or (pt_cmpR op_isN (pv 5) pe_non (nomark _)) (pw_or1 (pt_not (pt_val (pe_c c_is_symbol hr (by decide) rfl (pa_cons (pv 4) pa_nil)))))))
    (pss_one (ps_ret (pe_tupS (pa_cons pe_non (pa_cons pe_int pa_nil)))))
    pss_nil)
  (pss_one (ps_ret (pe_tupS (pa_cons (pv 4) (pa_cons (pe_op op_mulW (pv 1) (pv 5)) pa_nil)))))))))), ?_⟩
    have wl := fa_word hl fa
    have ww := wrd_len b hl fa
    have st := wrd_starts ok b f
    have big : ∀ {n : Nat}, n ≤ 2000 → n ≤ sizeLine := fun h => Nat.le_trans h (by decide)
    obtain ⟨c, hc⟩ : ∃ c, c = (b && decide (f < 0)) := ⟨_, rfl⟩
    rw [← hc] at st
    have hval : (if c = true then (-1 : Int) else 1) * Fm.absI f = if b = true then f else Fm.absI f := by
      rw [hc]
      unfold Fm.absI
      cases b <;> by_cases g : f < 0 <;> simp [g] <;> omega
    -- behind the sign
    refine ⟨fun σ' H' => H' = H ∧ σ' = [some (.str (Fm.wordS z f)), some (.int (if c = true then -1 else 1)), none, none, none, none], ?_, ?_⟩
    · refine ⟨_, rfl, rfl, _, _, rfl, rfl, _, rfl, ?_⟩
      rw [st]
      cases c with
      | true =>
        rw [wrd_neg hc.symm]
        refine iteT ⟨_, rfl, _, rfl, _, rfl, _, rfl, big ?_, rfl, ?_⟩
        · rw [lenapp]
          show 1 + _ ≤ _
          omega
        · rw [cut1]
          rfl
      | false =>
        rw [wrd_pos hc.symm]
        exact iteF ⟨rfl, rfl⟩
    · rintro σ' H' ⟨rfl, rfl⟩
      refine ⟨_, rfl, ⟨_, rfl⟩, _, _, rfl, rfl, rfl, big (by omega), fun p np => ?_⟩
      have s1 : Same H' (upd H' p (.tup [.str (Txt.rpartition (Fm.wordS z f) "*").1, .str (Txt.rpartition (Fm.wordS z f) "*").2.1, .str (Txt.rpartition (Fm.wordS z f) "*").2.2])) := Same.new np
      refine ⟨p, _, rfl, SqT.of upd_same, rfl, _, _, rfl, _, _, rfl, _, _, rfl, rfl, ?_⟩
      generalize upd H' p (.tup [.str (Txt.rpartition (Fm.wordS z f) "*").1, .str (Txt.rpartition (Fm.wordS z f) "*").2.1, .str (Txt.rpartition (Fm.wordS z f) "*").2.2]) = H1 at s1 ⊢
      rw [Fm.word_rpart ok f]
      have hz : z.length ≤ 1000 := by omega
      refine ⟨fun v H2 => v = .int (Fm.absI f) ∧ H2 = H1, ?_, ?_⟩
      · by_cases g : Fm.absI f = 1
        · rw [if_pos g, g]
          exact ⟨_, rfl, false, ⟨Nat.zero_le _, rfl⟩, iteF ⟨rfl, rfl⟩⟩
        · rw [if_neg g]
          exact ⟨_, rfl, true, ⟨(show (("*" : Str).length ≤ sizeLine) by decide), rfl⟩, iteT ⟨_, rfl, Fm.numS f, Fm.absI f, rfl, num_readB fa, fa_num fa, rfl, rfl⟩⟩
      · rintro v H2 ⟨rfl, rfl⟩
        have e3 : (if Fm.absI f = 1 then ((Str.empty, Str.empty, z) : Str × Str × Str) else (Fm.numS f, "*", z)).2.2 = z := by split <;> rfl
        rw [e3]
        refine ⟨_, rfl, rfl, _, rfl, ite2 (fun h => absurd (of_decide_eq_true h) (by simp)) fun _ => ⟨_, rfl, .str z, .str z, rfl, .str z hz, fun H3 s3 => ⟨_, rfl, ?_⟩⟩⟩
        rw [sy]
        refine iteF ⟨_, rfl, _, rfl, _, rfl, _, _, rfl, rfl, ?_, (by show 2 ≤ sizeLine; decide), fun q H4 n4 s4 h4 => k q H4 (s1.trans (s3.trans s4)) ?_⟩
        · refine wide_mul (a := 2) (b := 110) ?_ ?_ (by decide) (by decide) (by decide)
          · split <;> decide
          · have := fa.le
            have e : (Fm.absI f).natAbs = f.natAbs := by
              unfold Fm.absI
              split <;> omega
            rw [e]
            exact this
        · rw [← hval]
          exact h4
end
end Lw

/-! ## FmG -/
set_option maxHeartbeats 1000000
namespace Lw
open PySem PySem.Spec PyProof.Rows L2
open Fm (cf Asc Nm)
abbrev s_form_in_text : Stmt := topS 30
abbrev n_form_in_text : List Str := ["text", "words", "factors", "at", "symbol", "factor", "minus"]
theorem sc_form_in_text : FnScope n_form_in_text ["text"] (defScope s_form_in_text) := ⟨rfl, rfl, rfl, by decide +kernel, rfl, by decide +kernel, by decide +kernel⟩
theorem wrds_get : ∀ (ts : Tms) (i : Nat) (q : Str × Int), ts[i]? = some q → (Fm.wrds ts)[2 * i]? = some (if q.2 < 0 then ("-" : Str) else "+") ∧ (Fm.wrds ts)[2 * i + 1]? = some (Fm.wordS q.1 q.2)
  | [], _, _, h => nomatch h
  | p :: r, 0, q, h => by
    cases h
    exact ⟨rfl, rfl⟩
  | p :: r, i + 1, q, h => wrds_get r i q h
theorem wrds_len : ∀ ts : Tms, (Fm.wrds ts).length = 2 * ts.length
  | [] => rfl
  | p :: r => by
    show (Fm.wrds r).length + 1 + 1 = _
    rw [wrds_len r, List.length_cons]
    omega
theorem words_len {p : Str × Int} {r : Tms} : (Fm.words (p :: r)).length = 2 * (p :: r).length - 1 := by
  show (Fm.wrds r).length + 1 = _
  rw [wrds_len, List.length_cons]
  omega
theorem words_get {p : Str × Int} {r : Tms} {i : Nat} {q : Str × Int} (h : (p :: r)[i]? = some q) : (Fm.words (p :: r))[2 * i]? = some (wrdB (decide (i = 0)) q.1 q.2) ∧ (0 < i → (Fm.words (p :: r))[2 * i - 1]? = some (if q.2 < 0 then ("-" : Str) else "+")) := by
  cases i with
  | zero =>
    cases h
    exact ⟨rfl, fun h => absurd h (by decide)⟩
  | succ i =>
    obtain ⟨h1, h2⟩ := wrds_get r i q h
    exact ⟨h2, fun _ => h1⟩
theorem sumlen : ∀ zs : List Str, ((zs.map TL.tl).flatten).length = (zs.map (·.length)).sum
  | [] => rfl
  | z :: r => by
    rw [List.map_cons, List.flatten_cons, List.length_append, sumlen r]
    rfl
theorem text_len {ts : Tms} (b : Bd 60 1000 ts) (sy : SyB ts) : (Fm.textS ts).length ≤ 231601 := by
  rw [← Fm.shown_text (ts := ts) fun q m => (sy q m).2.ne, Fm.shownS]
  split
  · decide
  · have h := pcs_sum b sy
    rw [← sumlen, ← Fm.joinE ""] at h
    exact Nat.le_trans h (by decide)
theorem atI_nat {α : Type} {xs : List α} {i : Nat} {x : α} (h : xs[i]? = some x) : atI xs (i : Int) = some x := by
  have hi := (List.getElem?_eq_some_iff.mp h).1
  unfold atI ixN
  rw [if_pos (by omega), if_pos (by omega)]
  exact h
theorem rg2 {n : Nat} (h0 : 0 < n) (h : n < 1000) : RgC 0 ((2 * n - 1 : Nat) : Int) 2 n := by
  refine ⟨by decide, by decide, ?_, ?_⟩
  · exact (by decide : ∀ n : Fin 1000, 0 < n.val → Builtin.Range.small 0 ((2 * n.val - 1 : Nat) : Int) 2 = true) ⟨n, h⟩ h0
  · unfold Builtin.Range.rangeSize
    rw [if_pos (by decide), if_pos (by omega)]
    omega
theorem take_put {us : Tms} (hn : (us.map (·.1)).Nodup) {i : Nat} {q : Str × Int} (h : us[i]? = some q) : putE (us.take i) q.1 q.2 = us.take (i + 1) := by
  unfold putE
  rw [if_neg (take_nin (s := q.1) (f := q.2) hn h), List.take_add_one, h]
  rfl
theorem Rd99.bd {ts : Tms} (h : Rd99 ts) {k : Nat} (l : ts.length ≤ k) : Bd k 1000 ts := ⟨l, fun q m => Nat.lt_of_lt_of_le (h q m).2.2.le (Nat.pow_le_pow_right (by decide) (by decide))⟩
theorem Rd99.sy {ts : Tms} (h : Rd99 ts) : SyB ts := fun q m => (h q m).1
/-- the text of a form, read -/
def spIn (C : Addr) : Sp := fun vs H Q _ => ∃ (ts : Tms), vs = [.str (Fm.textS ts)] ∧ Nm ts ∧ Rd99 ts ∧ ts.length ≤ 20 ∧ ∀ a H', Same H H' → FormAt C H' a ts → Q (.ref a) H'
section
variable {P : Program} {w : World} {K : PySem.W.Frag} {mg : Str → Option Value} {base : Heap} {C : Addr}
theorem ok_form_in_text {f : Addr} {fd : FuncData} (F : Fun K "form_in_text" "form_in_text" s_form_in_text f fd) (T : Ta mg) (C0 : Fc K mg C) (M_new : Mk0 P w K mg base 3 "Form" C (fun vs H Q E => vs.length = ["self"].length ∧ ∀ d, H d = none → spInit0 C (vs ++ [V.ref d]) (upd H d (.dK [])) Q E0))
    (c__term_in_text : Cal P w K mg base 3 "_term_in_text" ["word"] spTerm) (c_form_of : Cal P w K mg base 5 "form_of" ["factors"] (spFormOf C)) : FnG P w K mg base 6 f fd ["text"] (spIn C) := by
  refine okG F sc_form_in_text (fun vs H Q E h => ?_) (fun cdv A outer s H vs Q hr h => ?_)
  · obtain ⟨ts, rfl, _⟩ := h
    rfl
  · obtain ⟨ts, rfl, nm, rd, lt, k⟩ := h
    refine ⟨_, (pss_cons (ps_if (pt_cmpR op_eq (pv 0) pe_str (nomark _))
    (pss_one (ps_ret (pe_new0 M_new hr (by decide) rfl)))
    pss_nil)
  (pss_cons (ps_set (i := 1) sc_form_in_text.nd rfl (by first | exact .inl rfl | exact .inr rfl) (pe_split (pv 0) pe_str))
  (pss_cons (ps_set (i := 2) sc_form_in_text.nd rfl (by first | exact .inl rfl | exact .inr rfl) pe_dnewK)
  (pss_cons (ps_for PassesOwn.never rfl (pi_range3 rfl T.b_range (pa_cons pe_int (pa_cons (pe_callB call_len_seq (by rfl) T.b_len (by decide +kernel) (pa_cons (pv 1) pa_nil)) (pa_cons pe_int pa_nil)))) (pg_name (i := 3) sc_form_in_text.nd rfl (by first | exact .inl rfl | exact .inr rfl))
    (pss_cons (ps_asg (pe_c c__term_in_text hr (by decide) rfl (pa_cons (pe_ix ix_list (pv 1) (pv 3) (fun _ _ => rfl)) pa_nil)) (pg_tup rfl (pgs_cons (pg_name (i := 4) sc_form_in_text.nd rfl (by first | exact .inl rfl | exact .inr rfl)) (pgs_cons (pg_name (i := 5) sc_form_in_text.nd rfl (by first | exact .inl rfl | exact .inr rfl)) pgs_nil))))
  (pss_cons (ps_if (pt_cmpR op_isN (pv 4) pe_non (nomark _))
    (pss_one (ps_ret pe_non))
    pss_nil)
  (pss_cons (ps_set (i := 6) sc_form_in_text.nd rfl (by first | exact .inl rfl | exact .inr rfl) (pe_mid (pe_and (pe_cmpR op_gt (pv 3) pe_int (nomark _)) (pe_one (pe_cmpR op_eq (pe_ix ix_list (pv 1) (pe_op op_sub (pv 3) pe_int) (fun _ _ => rfl)) pe_str (nomark _))))))
  (pss_one (ps_dput (hu_of hr.rm) (pv 2) (pv 4) (pe_mid (pe_ifExp (pt_val (pv 6)) (pe_un un_neg (pv 5)) (pv 5))) rfl))))))
  (pss_one (ps_ret (pe_c c_form_of hr (by decide) rfl (pa_cons (pv 2) pa_nil)))))))), ?_⟩
    have tlen := text_len (rd.bd (k := 60) (by omega)) rd.sy
    have nd := asc_nodup nm.asc
    cases hts : ts with
    | nil =>
      subst hts
      rw [Fm.text_nil]
      refine ⟨_, rfl, rfl, _, rfl, iteT ?_⟩
      refine fun x dx hx hdx hne => ⟨rfl, fun d0 hd0 => ⟨x, d0, dx, rfl, upd_same, ?_, fun H1 t0 u0 s0 hx1 ht0 hu0 => ⟨rfl, ?_⟩⟩⟩
      · have : x ≠ d0 := fun e => by rw [← e, upd_same] at hd0; cases hd0
        rw [upd_ne this, upd_same]
      · have sH : Same H H1 := fun b o e => by
          have n1 : b ≠ x := ne_of_none e hx
          have n2 : b ≠ dx := ne_of_none e hdx
          have e2 : upd (upd H dx (.own x)) x (.ins C dx []) b = some o := by rw [upd_ne n1, upd_ne n2]; exact e
          have n3 : b ≠ d0 := ne_of_none e2 hd0
          exact s0 b o n1 (by rw [upd_ne n3]; exact e2)
        exact k x H1 sH ⟨dx, t0, u0, hx1, ht0, hu0⟩
    | cons q0 r =>
      subst hts
      have ok : ∀ q ∈ q0 :: r, Fm.SyOk q.1 := fun q m => (rd q m).1.2
      have hz := Fm.text_zero ok
      have hsp := Fm.split_words ok
      refine ⟨_, rfl, rfl, _, rfl, ite2 (fun h => absurd (of_decide_eq_true h) fun e => hz (V.str.inj e)) fun _ => ?_⟩
      refine ⟨_, rfl, ⟨_, rfl⟩, _, _, rfl, rfl, rfl, Nat.le_trans (Nat.add_le_add_right tlen 2) (by decide), fun p np => ?_⟩
      rw [hsp]
      refine fun d hd => ?_
      have n : d ≠ p := fun e => by rw [e, upd_same] at hd; cases hd
      have s1 : Same H (upd (upd H p (.lst ((Fm.words (q0 :: r)).map V.str))) d (.dK [])) := (Same.new np).trans (Same.new hd)
      have hp1 : upd (upd H p (.lst ((Fm.words (q0 :: r)).map V.str))) d (.dK []) p = some (.lst ((Fm.words (q0 :: r)).map V.str)) := by rw [upd_ne (Ne.symm n), upd_same]
      have hd1 : upd (upd H p (.lst ((Fm.words (q0 :: r)).map V.str))) d (.dK []) d = some (.dK []) := upd_same
      have fr : ∀ b o, H b = some o → b ≠ d := fun b o e n => by
        subst n
        have := (Same.new np (o := .lst ((Fm.words (q0 :: r)).map V.str))) _ _ e
        rw [hd] at this
        cases this
      generalize upd (upd H p (.lst ((Fm.words (q0 :: r)).map V.str))) d (.dK []) = H1 at s1 hp1 hd1 ⊢
      refine ⟨_, rfl, p, _, rfl, .inl (SqL.of hp1), 0, _, 2, (q0 :: r).length, rfl, by rw [List.length_map, words_len]; exact rg2 (Nat.succ_pos _) (by omega), for_it (walk_rangeC (lo := 0) (c := 2)) (fun i σ H' => ∃ x3 x4 x5 x6, σ = [some (.str (Fm.textS (q0 :: r))), some (.ref p), some (.ref d), x3, x4, x5, x6] ∧ Same H H' ∧ H' p = some (.lst ((Fm.words (q0 :: r)).map V.str)) ∧ H' d = some (.dK (((q0 :: r).take i).map entK)))
        ⟨_, _, _, _, rfl, s1, hp1, hd1⟩ (fun _ _ _ _ _ => True.intro) ?_ ?_⟩
      · rintro i x σ H2 H3 hi ⟨x3, x4, x5, x6, rfl, s2, hp2, hd2⟩ y
        obtain ⟨rfl, rfl⟩ := y
        obtain ⟨q, hq⟩ : ∃ q, (q0 :: r)[i]? = some q := ⟨_, List.getElem?_eq_getElem hi⟩
        obtain ⟨w1, w2⟩ := words_get hq
        have hm : q ∈ q0 :: r := List.mem_of_getElem? hq
        obtain ⟨⟨l8, sok⟩, ssy, sfa⟩ := rd q hm
        obtain ⟨z, g⟩ := q
        refine ⟨_, rfl, _, rfl, p, _, ((2 * i : Nat) : Int), .str (wrdB (decide (i = 0)) z g), rfl, by show V.int (0 + (i : Nat) * 2) = _; rw [show (0 : Int) + (i : Nat) * 2 = ((2 * i : Nat) : Int) by omega], SqL.of hp2, atI_nat (by rw [List.getElem?_map, w1]; rfl), ?_⟩
        refine ⟨z, g, decide (i = 0), rfl, l8, sok, ssy, sfa, fun t H4 s3 ht => ?_⟩
        refine ⟨t, _, rfl, SqT.of ht, rfl, _, _, rfl, _, _, rfl, rfl, ?_⟩
        refine ⟨_, rfl, rfl, _, rfl, ite2 (fun h => absurd (of_decide_eq_true h) (by simp)) fun _ => ?_⟩
        refine ⟨fun v H2 => v = .bl (decide (0 < i) && decide (g < 0)) ∧ H2 = H4, ?_, ?_⟩
        · refine ⟨_, rfl, _, _, rfl, rfl, _, rfl, ?_⟩
          rw [show decide ((0 : Int) < 0 + (i : Nat) * 2) = decide (0 < i) from decide_eq_decide.mpr (by omega)]
          cases Nat.eq_zero_or_pos i with
          | inl e =>
            subst e
            exact iteF ⟨rfl, rfl⟩
          | inr e =>
            rw [decide_eq_true e]
            refine iteT ⟨_, rfl, _, rfl, _, _, rfl, rfl, _, _, ((2 * i - 1 : Nat) : Int), .str (if g < 0 then "-" else "+"), rfl, ?_, SqL.of (s3 _ _ hp2), atI_nat (by rw [List.getElem?_map, w2 e]; rfl), ?_⟩
            · show V.int (0 + (i : Nat) * 2 - 1) = _
              rw [show (0 : Int) + (i : Nat) * 2 - 1 = ((2 * i - 1 : Nat) : Int) by omega]
            · refine ⟨rfl, ?_, rfl⟩
              by_cases hg : g < 0
              · rw [if_pos hg, decide_eq_true hg]
                rfl
              · rw [if_neg hg, decide_eq_false hg]
                rfl
        · rintro v H5 ⟨rfl, rfl⟩
          refine ⟨fun v H2 => v = .int g ∧ H2 = H5, ?_, ?_⟩
          · refine ⟨_, rfl, _, rfl, ite2 (fun h => ?_) fun h => ?_⟩
            · have h := Bool.and_eq_true_iff.mp h
              have h1 := of_decide_eq_true h.1
              have h2 := of_decide_eq_true h.2
              refine ⟨_, rfl, _, rfl, ?_, rfl⟩
              show V.int (-(if decide (i = 0) = true then g else Fm.absI g)) = _
              rw [if_neg (by simp; omega), show Fm.absI g = -g from if_pos h2]
              rw [Int.neg_neg]
            · refine ⟨_, rfl, ?_, rfl⟩
              by_cases e : i = 0
              · rw [if_pos (decide_eq_true e)]
              · rw [if_neg (by simpa using e), show Fm.absI g = g from if_neg fun c => h (by rw [decide_eq_true (Nat.pos_of_ne_zero e), decide_eq_true c]; rfl)]
          · rintro v H6 ⟨rfl, rfl⟩
            refine ⟨_, rfl, _, rfl, d, _, rfl, DPut.k (k := Sum.inr z) (s3 _ _ hd2) ?_, ?_⟩
            · rw [List.length_map, List.length_take]
              exact Nat.lt_of_le_of_lt (show _ ≤ 20 by omega) (by decide)
            · refine ⟨_, _, _, _, rfl, fun b o e => ?_, ?_, ?_⟩
              · rw [upd_ne (fr b o e)]
                exact s3 _ _ (s2 _ _ e)
              · rw [upd_ne (fun e => by rw [e, hd2] at hp2; cases hp2)]
                exact s3 _ _ hp2
              · rw [upd_same, put_ent, take_put nd hq]
      · rintro σ H2 ⟨x3, x4, x5, x6, rfl, s2, hp2, hd2⟩
        rw [List.take_length] at hd2
        exact ⟨_, rfl, d, q0 :: r, rfl, hd2, nd, by omega, fun a H3 ts' s3 hf nm' hc _ => by
          have := Fm.nm_ext nm' nm hc
          subst this
          exact k a H3 (s2.trans s3) hf⟩
end
end Lw

/-! ## FmH -/
set_option maxHeartbeats 1000000
namespace Lw
open PySem PySem.Spec PyProof.Rows L2
open Fm (cf Asc Nm)
abbrev s_read_form : Stmt := topS 27
abbrev n_read_form : List Str := ["text", "form"]
theorem sc_read_form : FnScope n_read_form ["text"] (defScope s_read_form) := ⟨rfl, rfl, rfl, by decide +kernel, rfl, by decide +kernel, by decide +kernel⟩
abbrev s_Form_read : Stmt := inClass (topS 26) 1
abbrev n_Form_read : List Str := ["text"]
theorem sc_Form_read : FnScope n_Form_read ["text"] (defScope s_Form_read) := ⟨rfl, rfl, rfl, by decide +kernel, rfl, by decide +kernel, by decide +kernel⟩
abbrev s_Form_factor : Stmt := inClass (topS 26) 2
abbrev n_Form_factor : List Str := ["self", "symbol", "own", "many"]
theorem sc_Form_factor : FnScope n_Form_factor ["self", "symbol"] (defScope s_Form_factor) := ⟨rfl, rfl, rfl, by decide +kernel, rfl, by decide +kernel, by decide +kernel⟩
abbrev s_Form_eq : Stmt := inClass (topS 26) 8
abbrev n_Form_eq : List Str := ["self", "other"]
theorem sc_Form_eq : FnScope n_Form_eq ["self", "other"] (defScope s_Form_eq) := ⟨rfl, rfl, rfl, by decide +kernel, rfl, by decide +kernel, by decide +kernel⟩
abbrev s_Form_repr : Stmt := inClass (topS 26) 10
abbrev n_Form_repr : List Str := ["self"]
theorem sc_Form_repr : FnScope n_Form_repr ["self"] (defScope s_Form_repr) := ⟨rfl, rfl, rfl, by decide +kernel, rfl, by decide +kernel, by decide +kernel⟩
/-- the factor of any value -/
def cfT (ts : Tms) : Tr → Int | .str z => cf ts z | _ => 0
def spFactor (K : PySem.W.Frag) (C : Addr) : Sp := fun vs H Q _ => ∃ (a : Addr) (v : V) (t : Tr) (ts : Tms), vs = [.ref a, v] ∧ FormAt C H a ts ∧ ts.length ≤ 60 ∧ TrIs K H v t ∧ Q (.int (cfT ts t)) H
/-- equal forms: normal ones, by their terms -/
def spEq (C : Addr) : Sp := fun vs H Q _ => ∃ (a : Addr) (y : V) (ts : Tms), vs = [.ref a, y] ∧ FormAt C H a ts ∧ ts.length ≤ 60 ∧ (∀ q ∈ ts, PyData.strOk q.1 = true) ∧ ((∃ b us, y = .ref b ∧ FormAt C H b us ∧ us.length ≤ 60 ∧ (∀ q ∈ us, PyData.strOk q.1 = true) ∧ Q (.bl (decide (ts = us))) H) ∨ (((∃ z, y = .str z) ∨ ∃ i, y = .int i) ∧ Q (.bl false) H))
def reprF (ts : Tms) : Str := ((Str.empty ++ Str.ofString "Form(") ++ Fm.textS ts) ++ Str.ofString ")"
def spReprF (C : Addr) : Sp := fun vs H Q _ => ∃ (a : Addr) (ts : Tms), vs = [.ref a] ∧ FormAt C H a ts ∧ Bd 60 1000 ts ∧ SyB ts ∧ ∀ H', Same H H' → Q (.str (reprF ts)) H'
theorem cf_take_none {ts : Tms} {z : Str} : ∀ {i : Nat}, (∀ q ∈ ts.take i, q.1 ≠ z) → ∀ {q : Str × Int}, ts[i]? = some q → q.1 = z → cf ts z = q.2 := by
  induction ts with
  | nil => intro i _ q h; simp at h
  | cons p r ih =>
    intro i hn q h e
    obtain ⟨t, f⟩ := p
    cases i with
    | zero =>
      simp at h
      subst h
      exact if_pos e
    | succ i =>
      have : t ≠ z := hn (t, f) (by rw [List.take_succ_cons]; exact List.mem_cons_self)
      rw [show cf ((t, f) :: r) z = cf r z from if_neg this]
      exact ih (i := i) (fun q m => hn q (by rw [List.take_succ_cons]; exact List.mem_cons_of_mem _ m)) (by simpa using h) e
def pairD (q : Str × Int) : PyData := .tuple [.str q.1, .int q.2]
def termsD (ts : Tms) : PyData := .tuple (ts.map pairD)
theorem prs_dp {K : PySem.W.Frag} {H : Hp} : ∀ {ps : List Addr} {ts : Tms}, Prs H ps ts → DpAll K H (ps.map V.ref) (ts.map pairD)
  | _, _, .nil => .nil
  | _, _, .cons h r => .cons (.tup (SqT.of h) (.cons (.str _) (.cons (.int _) .nil))) (prs_dp r)
theorem eqv_terms : ∀ ts us : Tms, PyData.eqvAll (ts.map pairD) (us.map pairD) = decide (ts = us)
  | [], [] => rfl
  | [], _ :: _ => rfl
  | _ :: _, [] => rfl
  | (s, f) :: r, (z, g) :: r2 => by
    show ((s == z && (f == g && true)) && PyData.eqvAll (r.map pairD) (r2.map pairD)) = _
    rw [eqv_terms r r2, Bool.and_true, Bool.eq_iff_iff]
    simp [and_assoc]
theorem lay_terms : ∀ {ts : Tms}, (∀ q ∈ ts, PyData.strOk q.1 = true) → PyData.canLayAll0 (ts.map pairD) = true
  | [], _ => rfl
  | (s, f) :: r, h => by
    show ((PyData.strOk s && (true && true)) && PyData.canLayAll0 (r.map pairD)) = true
    rw [h _ List.mem_cons_self, lay_terms fun q m => h q (List.mem_cons_of_mem _ m)]
    rfl
theorem dep_terms : ∀ ts : Tms, PyData.depthAll (ts.map pairD) ≤ 2
  | [] => by decide
  | (s, f) :: r => by
    have := dep_terms r
    simp only [List.map_cons, PyData.depthAll, pairD, PyData.depth] at this ⊢
    omega
theorem termsD_sh {ts : Tms} (h : ∀ q ∈ ts, PyData.strOk q.1 = true) (_ : ts.length ≤ 60) : SeqAt.shaped (termsD ts) = true := by
  have := dep_terms ts
  refine Bool.and_eq_true_iff.mpr ⟨lay_terms h, decide_eq_true ?_⟩
  simp only [termsD, PyData.depth]
  omega
section
variable {P : Program} {w : World} {K : PySem.W.Frag} {mg : Str → Option Value} {base : Heap} {C : Addr}
theorem ok_read_form {f : Addr} {fd : FuncData} (F : Fun K "read_form" "read_form" s_read_form f fd) (T : Ta mg) (C0 : Fc K mg C) (M_str : Mt P w K mg base 2 C "__str__" ["self"] (spStr C)) (c_form_in_text : Cal P w K mg base 6 "form_in_text" ["text"] (spIn C)) : FnG P w K mg base 7 f fd ["text"] (spIn C) := by
  refine okG F sc_read_form (fun vs H Q E h => ?_) (fun cdv A outer s H vs Q hr h => ?_)
  · obtain ⟨ts, rfl, _⟩ := h
    rfl
  · obtain ⟨ts, rfl, nm, rd, lt, k⟩ := h
    refine ⟨_, (pss_cons (ps_set (i := 1) sc_read_form.nd rfl (by first | exact .inl rfl | exact .inr rfl) (pe_mid (pe_ifExp (pt_val (pe_callB call_isi (by rfl) T.b_isinstance (by decide +kernel) (pa_cons (pv 0) (pa_cons (pe_bltn (v := .ty "str") rfl T.b_str (by decide +kernel) rfl) pa_nil)))) (pe_c c_form_in_text hr (by decide) rfl (pa_cons (pv 0) pa_nil)) pe_non)))
  (pss_cons (ps_if (PW.pt (pw_or (pt_cmpR op_isN (pv 1) pe_non (nomark _)) (pw_or1 (pt_cmpR op_ne (pe_callTy (call_strO M_str hr (by decide)) (by rfl) T.b_str (by decide +kernel) (pa_cons (pv 1) pa_nil)) (pv 0) (nomark _)))))
    (pss_one ps_dead)
    pss_nil)
  (pss_one (ps_ret (pv 1))))), ?_⟩
    have tlen := text_len (rd.bd (k := 60) (by omega)) rd.sy
    refine ⟨fun v H2 => ∃ a, v = .ref a ∧ Same H H2 ∧ FormAt C H2 a ts, ?_, ?_⟩
    · refine ⟨_, rfl, .str (Fm.textS ts), .ty "str", _, _, true, rfl, .ty "str", .base (.str _), (by decide +kernel : kitB "str" "str" = some true), true, rfl, iteT ?_⟩
      exact ⟨_, rfl, ts, rfl, nm, rd, lt, fun a H2 s2 ha => ⟨a, rfl, s2, ha⟩⟩
    · rintro v H2 ⟨a, rfl, s2, ha⟩
      refine ⟨_, rfl, rfl, _, rfl, ite2 (fun h => absurd (of_decide_eq_true h) (by simp)) fun _ => ?_⟩
      refine ⟨_, rfl, a, rfl, ha.is, a, ts, rfl, ha, rd.bd (by omega), rd.sy, fun H3 s3 => ⟨⟨_, rfl⟩, _, rfl, rfl, _, rfl, ?_⟩⟩
      rw [decide_eq_true rfl]
      exact iteF ⟨_, rfl, k a H3 (s2.trans s3) (ha.same s3)⟩
theorem ok_read {f : Addr} {fd : FuncData} (F : Fun K "read" "Form.read" s_Form_read f fd) (c_read_form : Cal P w K mg base 7 "read_form" ["text"] (spIn C)) : FnG P w K mg base 8 f fd ["text"] (spIn C) := by
  refine okG F sc_Form_read (fun vs H Q E h => ?_) (fun cdv A outer s H vs Q hr h => ?_)
  · obtain ⟨ts, rfl, _⟩ := h
    rfl
  · obtain ⟨ts, rfl, nm, rd, lt, k⟩ := h
    refine ⟨_, (pss_one (ps_ret (pe_c c_read_form hr (by decide) rfl (pa_cons (pv 0) pa_nil)))), ?_⟩
    exact ⟨_, rfl, ts, rfl, nm, rd, lt, fun a H2 s2 ha => k a H2 s2 ha⟩
theorem ok_factor {f : Addr} {fd : FuncData} (F : Fun K "factor" "Form.factor" s_Form_factor f fd) (T : Ta mg) (C0 : Fc K mg C) : FnG P w K mg base 1 f fd ["self", "symbol"] (spFactor K C) := by
  refine okG F sc_Form_factor (fun vs H Q E h => ?_) (fun cdv A outer s H vs Q hr h => ?_)
  · obtain ⟨a, v, t, ts, rfl, _⟩ := h
    rfl
  · obtain ⟨a, v, t, ts, rfl, ⟨dx, tt, u, ha, ⟨ps, ht, hp⟩, hu⟩, l1, h, k⟩ := h
    refine ⟨_, (pss_cons (ps_if (pt_not (pt_val (pe_callB call_isi (by rfl) T.b_isinstance (by decide +kernel) (pa_cons (pv 1) (pa_cons (pe_bltn (v := .ty "str") rfl T.b_str (by decide +kernel) rfl) pa_nil)))))
    (pss_one (ps_ret pe_int))
    pss_nil)
  (pss_cons (ps_for PassesOwn.never rfl (pi_tup (pe_fld (pv 0) rfl)) (pg_tup rfl (pgs_cons (pg_name (i := 2) sc_Form_factor.nd rfl (by first | exact .inl rfl | exact .inr rfl)) (pgs_cons (pg_name (i := 3) sc_Form_factor.nd rfl (by first | exact .inl rfl | exact .inr rfl)) pgs_nil)))
    (pss_one (ps_if (pt_cmpR op_eq (pv 2) (pv 1) (nomark _))
    (pss_one (ps_ret (pv 3)))
    pss_nil)))
  (pss_one (ps_ret pe_int)))), ?_⟩
    have lps := hp.len
    refine ⟨_, rfl, v, _, _, _, _, rfl, .ty _, h.tyx, kit_ty (kit_str t), _, rfl, ?_⟩
    cases h with
    | str z hz =>
      refine iteF ?_
      refine ⟨_, rfl, a, C, dx, _, _, rfl, ha, C0.cls, C0.nT, rfl, tt, rfl, ⟨_, ht.sq⟩, for_tup (K := K) (a := tt) (xs := ps.map V.ref) (fun i σ H' => (∃ (x2 x3 : Option V), σ = [some (.ref a), some (.str z), x2, x3]) ∧ H' = H ∧ ∀ q ∈ ts.take i, q.1 ≠ z)
        ⟨⟨_, _, rfl⟩, rfl, fun q m => (by simp at m)⟩ (fun i σ H' _ ⟨_, e, _⟩ => by rw [e]; exact ht.sq) ?_ ?_⟩
      · rintro i x σ H1 hx ⟨⟨x2, x3, rfl⟩, rfl, hn⟩
        obtain ⟨p, q, rfl, hq, hpq⟩ := hp.get hx
        refine ⟨p, _, rfl, SqT.of hpq, rfl, ?_⟩
        refine ⟨_, _, rfl, _, _, rfl, rfl, _, rfl, _, rfl, rfl, _, rfl, ite2 (fun he => ?_) fun he => ?_⟩
        · have he : q.1 = z := by simpa using he
          refine ⟨_, rfl, ?_⟩
          rw [show cfT ts (.str z) = q.2 from cf_take_none hn hq he] at k
          exact k
        · have he : ¬ q.1 = z := by simpa using he
          refine ⟨⟨_, _, rfl⟩, rfl, fun q' m => ?_⟩
          rw [List.take_add_one, hq] at m
          rcases List.mem_append.mp m with m | m
          · exact hn q' m
          · have e : q' = q := by simpa using m
            rw [e]
            exact he
      · rintro σ H1 ⟨_, rfl, hn⟩
        rw [List.length_map, lps, List.take_length] at hn
        rw [show cfT ts (.str z) = 0 from Fm.cf_none hn] at k
        exact k
    | _ => exact iteT k
theorem ok_eq {f : Addr} {fd : FuncData} (F : Fun K "__eq__" "Form.__eq__" s_Form_eq f fd) (T : Ta mg) (C0 : Fc K mg C) (E1 : FeQ K C) : FnG P w K mg base 1 f fd ["self", "other"] (spEq C) := by
  refine okG F sc_Form_eq (fun vs H Q E h => ?_) (fun cdv A outer s H vs Q hr h => ?_)
  · obtain ⟨a, y, ts, rfl, _⟩ := h
    rfl
  · obtain ⟨a, y, ts, rfl, ⟨dx, t, u, ha, ⟨ps, ht, hp⟩, hu⟩, l1, h⟩ := h
    refine ⟨_, (pss_one (ps_ret (pe_and (pe_callB (CallR.or (C8.call_isC C0.isc) call_isi) (by rfl) T.b_isinstance (by decide +kernel) (pa_cons (pv 1) (pa_cons (pe_gl (v := .ref C) rfl C0.g_Form) pa_nil))) (pe_one (pe_cmpR (op_eqD hr.units) (pe_fld (pv 0) rfl) (pe_fld (pv 1) rfl) (nomark _)))))), ?_⟩
    obtain ⟨so, h⟩ := h
    rcases h with ⟨b, us, rfl, ⟨dy, t2, u2, hb, ⟨qs, ht2, hq2⟩, hu2⟩, l2, so2, q⟩ | ⟨h, q⟩
    · refine ⟨_, rfl, .inl ⟨b, dy, _, rfl, hb, _, rfl, iteT ?_⟩⟩
      refine ⟨_, rfl, a, C, dx, _, _, rfl, ha, C0.cls, C0.nT, rfl, _, rfl, b, C, dy, _, _, rfl, hb, C0.cls, C0.nT, rfl, termsD ts, termsD us, .tup ht.sq (prs_dp hp), .tup ht2.sq (prs_dp hq2), termsD_sh so l1, termsD_sh so2 l2, ?_⟩
      rw [show PyData.eqv (termsD ts) (termsD us) = decide (ts = us) from eqv_terms ts us]
      exact q
    · refine ⟨_, rfl, .inr ⟨y, .ref C, ?_⟩⟩
      rcases h with ⟨z, rfl⟩ | ⟨i, rfl⟩
      · exact ⟨_, _, false, rfl, .own C, .base (.str z), E1.kstr, _, rfl, iteF q⟩
      · exact ⟨_, _, false, rfl, .own C, .base (.int i), E1.kint, _, rfl, iteF q⟩
theorem ok_repr {f : Addr} {fd : FuncData} (F : Fun K "__repr__" "Form.__repr__" s_Form_repr f fd) (T : Ta mg) (C0 : Fc K mg C) (M_str : Mt P w K mg base 2 C "__str__" ["self"] (spStr C)) : FnG P w K mg base 7 f fd ["self"] (spReprF C) := by
  refine okG F sc_Form_repr (fun vs H Q E h => ?_) (fun cdv A outer s H vs Q hr h => ?_)
  · obtain ⟨a, ts, rfl, _⟩ := h
    rfl
  · obtain ⟨a, ts, rfl, ha, b, sy, k⟩ := h
    refine ⟨_, (pss_one (ps_ret (pe_joined (PJ.cons pe_str (PJ.cons (pe_fmt (pe_callTy (call_strO M_str hr (by decide)) (by rfl) T.b_str (by decide +kernel) (pa_cons (pv 0) pa_nil))) (PJ.cons pe_str PJ.nil)))))), ?_⟩
    have tl := text_len b sy
    refine ⟨_, rfl, by decide, ?_⟩
    refine ⟨_, rfl, a, rfl, ha.is, a, ts, rfl, ha, b, sy, fun H2 s2 => ⟨⟨_, rfl⟩, ?_⟩⟩
    have l1 : ((Str.empty ++ Str.ofString "Form(") ++ Fm.textS ts).length ≤ 231606 := by
      rw [strLen_append]
      have : (Str.empty ++ Str.ofString "Form(").length = 5 := by decide
      omega
    have l2 : (((Str.empty ++ Str.ofString "Form(") ++ Fm.textS ts) ++ Str.ofString ")").length ≤ 231607 := by
      rw [strLen_append]
      have : (Str.ofString ")").length = 1 := by decide
      omega
    exact .inl ⟨_, rfl, Nat.le_trans tl (by decide), _, rfl, Nat.le_trans l1 (by decide), _, rfl, Nat.le_trans l2 (by decide), k H2 s2⟩
end
end Lw

/-! ## LwE -/
set_option maxHeartbeats 4000000
namespace PySem
namespace LwX
open Builtin Builtin.ObjectAttr HandSPX
/-- own classes, then the tail -/
def refsT (tl : List Value) : List Value → Bool
  | .ref _ :: r => refsT tl r
  | l => l == tl
theorem refsT_cases {tl : List Value} : ∀ l : List Value, refsT tl l = true → (∃ c r, l = .ref c :: r ∧ refsT tl r = true) ∨ l = tl
  | [], e => .inr (beq_iff_eq.mp e)
  | .ref c :: r, e => .inl ⟨c, r, rfl, e⟩
  | .none :: _, e => .inr (beq_iff_eq.mp e)
  | .ellipsis :: _, e => .inr (beq_iff_eq.mp e)
  | .notImplemented :: _, e => .inr (beq_iff_eq.mp e)
  | .bool _ :: _, e => .inr (beq_iff_eq.mp e)
  | .int _ _ :: _, e => .inr (beq_iff_eq.mp e)
  | .float _ _ :: _, e => .inr (beq_iff_eq.mp e)
  | .str _ _ :: _, e => .inr (beq_iff_eq.mp e)
  | .bytes _ _ :: _, e => .inr (beq_iff_eq.mp e)
  | .type _ :: _, e => .inr (beq_iff_eq.mp e)
  | .builtin _ :: _, e => .inr (beq_iff_eq.mp e)
structure TailOk (tl : List Value) : Prop where
  passes : ∀ self : Value, refuseLoop self "__setattr__" tl = pure ()
  ne : tl ≠ []
  obj : tl.contains (.type "object") = true
abbrev tailOf (B : String) : List Value := [.type B, .type "Exception", .type "BaseException", .type "object"]
theorem tail_ValueError : TailOk (tailOf "ValueError") := ⟨fun self => by kernel_rfl, by simp, by decide +kernel⟩
theorem tail_LookupError : TailOk (tailOf "LookupError") := ⟨fun self => by kernel_rfl, by simp, by decide +kernel⟩
theorem tail_RuntimeError : TailOk (tailOf "RuntimeError") := ⟨fun self => by kernel_rfl, by simp, by decide +kernel⟩
theorem tail_ArithmeticError : TailOk (tailOf "ArithmeticError") := ⟨fun self => by kernel_rfl, by simp, by decide +kernel⟩
section
variable {tl : List Value}
theorem refsT_pass (K : TailOk tl) (self : Value) : ∀ l : List Value, refsT tl l = true → refuseLoop self "__setattr__" l = pure () := by
  intro l
  induction l with
  | nil =>
    intro e
    rcases refsT_cases [] e with ⟨c, r', q, h⟩ | q
    · cases q
    · exact absurd q.symm K.ne
  | cons a r ih =>
    intro e
    rcases refsT_cases (a :: r) e with ⟨c, r', q, h⟩ | q
    · obtain ⟨rfl, rfl⟩ := List.cons.inj q
      rw [refuseLoop_ref]; exact ih h
    · rw [q]; exact K.passes self
theorem refsT_contains (K : TailOk tl) (X : String) : ∀ l : List Value, refsT tl l = true → l.contains (.type X) = tl.contains (.type X) := by
  intro l
  induction l with
  | nil =>
    intro e
    rcases refsT_cases [] e with ⟨c, r', q, h⟩ | q
    · cases q
    · exact absurd q.symm K.ne
  | cons a r ih =>
    intro e
    rcases refsT_cases (a :: r) e with ⟨c, r', q, h⟩ | q
    · obtain ⟨rfl, rfl⟩ := List.cons.inj q
      rw [List.contains_cons, ih h]; rfl
    · rw [q]
theorem refsT_ne (K : TailOk tl) {l : List Value} (e : refsT tl l = true) : l.isEmpty = false := by
  cases l with
  | nil =>
    rcases refsT_cases [] e with ⟨c, r', q, h⟩ | q
    · cases q
    · exact absurd q.symm K.ne
  | cons _ _ => rfl
end
section
variable {M : Model} {A : Around} {E : Value → Shared → Prop} {h : Heap} {g : Array GenState} {d : Drawn} {t : Nat} {os : OsState}
variable {nm q : Str} {C N : Addr} {bs bm bmB : List Value} {hdct : Bool} {sn : List Str} {sub : List Value} {ab : Bool} {col : Option Bool} {dd : Option Addr} {k0 k1 k2 k3 k5 : Option Value} {B newId initId : String}

theorem check_new_ownK (F : ExcBaseFacts B newId initId bmB) (hT : ∀ X : String, bm.contains (.type X) = bmB.contains (.type X)) {rest : List Value} {kw : List (Str × Value)} {Q : Unit → Shared → Prop}
    (hC : h.get? C = some (excClassObj nm q C N bs bm hdct sn sub ab col dd k0 k1 k2 k3 k5 newId)) (hq : Q () ⟨h, g, d, t, os⟩) : wpAny M A (checkBuiltinCall newId ⟨.ref C :: rest, kw⟩) Q E ⟨h, g, d, t, os⟩ := by
  have hcont : (Value.ref C :: bm).contains (.type B) = true := by rw [List.contains_cons, hT, F.hasB, Bool.or_true]
  have hstar := F.noStar
  simp only [checkBuiltinCall, F.newKind, F.newSplit, F.newRow]
  repeat (first | refine wpAny_loadPart_at hC ?_ | (refine wpAny_isSubtype_exc hC ?_; rw [hcont]) | refine wpAny_staticBase_exc hC ?_ | refine wpAny_madeBy_exc hC ?_ | simp only [bne_self_eq_false, Bool.false_eq_true, if_false] | wp_step)
  exact hq
end
section
variable {prog : Program} {w : World} {A : Around} {E : Value → Shared → Prop} {R : Result → Shared → Prop} {h : Heap} {g : Array GenState} {d : Drawn} {t : Nat} {os : OsState}
variable {nm q : Str} {C N : Addr} {bs bm bmB : List Value} {hdct : Bool} {sn : List Str} {sub : List Value} {ab : Bool} {col : Option Bool} {dd : Option Addr} {k0 k1 k2 k3 k5 : Option Value} {B newId initId : String}

theorem new_ownK (F : ExcBaseFacts B newId initId bmB) (hT : ∀ X : String, bm.contains (.type X) = bmB.contains (.type X)) {rest : List Value} {kw : List (Str × Value)}
    (hC : h.get? C = some (excClassObj nm q C N bs bm hdct sn sub ab col dd k0 k1 k2 k3 k5 newId))
    (hq : R (.ok (.ret (.ref (h.objs.size + 1)))) ⟨(h.push { cls := .type "tuple", data := .seq rest.toArray }).push
      { cls := .ref C, data := .fields #[.ref h.objs.size, .none, .none, .none, .bool false, .none] }, g, d, t, os⟩) (hrest : rest.length ≤ sizeLine) :
    codeAny (model prog w) A (.builtin newId ⟨.ref C :: rest, kw⟩) R ⟨h, g, d, t, os⟩ := by
  have hends := F.ends
  have hcB : (Value.ref C :: bm).contains (.type B) = true := by rw [List.contains_cons, hT, F.hasB, Bool.or_true]
  have hcA : (Value.ref C :: bm).contains (.type "AttributeError") = false := by rw [List.contains_cons, hT, F.noAttr]; rfl
  have hcN : (Value.ref C :: bm).contains (.type "NameError") = false := by rw [List.contains_cons, hT, F.noName]; rfl
  refine codeAny_builtinAt F.entry ?_
  unfold Builtin.«BaseException.__new__»
  refine wpAt_bind ?_
  show wpAt _ _ _ (stack >>= _) _ _ _
  refine wpAt_bind (wpAt_stack fun p below => wpAt_of_wpAny ?_)
  wp_walk
  refine wpAt_of_wpAny ?_
  rw [F.owner]
  repeat (first | with_reducible refine wpAny_madeHere_exc F.canon hC ?_ | with_reducible refine wpAny_loadPart_at hC ?_ | (with_reducible refine wpAny_isSubtype_exc hC ?_; first | rw [hcB] | rw [hcA] | rw [hcN]) | wp_step)
  show R _ _
  rw [Heap.size_push]
  exact hq

theorem type_call_ownK (F : ExcBaseFacts B newId initId bmB) (hT : ∀ X : String, bm.contains (.type X) = bmB.contains (.type X)) {rest : List Value} {kw : List (Str × Value)} {fI : Addr} {Q : Fin → Shared → Prop}
    (hC : h.get? C = some (excClassObj nm q C N bs bm hdct sn sub ab col dd k0 k1 k2 k3 k5 newId))
    (hi : W.Looks (model prog w) h (typeLookup (.ref C) "__init__") (some (.ref fI))) (hb : ∀ self, W.Looks (model prog w) h (bindSpecial (.ref fI) self) (.ref fI, [self])) (hrest : rest.length ≤ sizeLine)
    (hq : codeAny (model prog w) A (.call (.ref fI) ⟨.ref (h.objs.size + 1) :: rest, kw⟩)
      (fun r s' => match r with | .ok (.ret v) => v = .none ∧ Q (.done (.ret (.ref (h.objs.size + 1)))) s' | .ok _ => False | .error e => E e s')
      ⟨(h.push (W.kdv_tup rest)).push (excO C h.objs.size), g, d, t, os⟩) :
    wpAny (model prog w) A (Builtin.«type.__call__» ⟨.ref C :: rest, kw⟩) Q E ⟨h, g, d, t, os⟩ := by
  repeat (first | with_reducible refine wpAny_loadPart_at hC ?_ | with_reducible refine wpAny_madeBy_exc hC ?_ | wp_step)
  refine codeAny_call_builtin_code (Code.quiet_builtin _ F.quiet) (check_new_ownK F hT hC ?_)
  refine new_ownK F hT hC ?_ hrest
  show wpAny _ _ _ _ _ _
  have k : ∀ b o, h.get? b = some o → ((h.push (W.kdv_tup rest)).push (excO C h.objs.size)).get? b = some o := fun b o e => Heap.get?_push_of_some _ (Heap.get?_push_of_some _ e)
  have hC₁ := k _ _ hC
  have hget : ((h.push (W.kdv_tup rest)).push (excO C h.objs.size)).get? (h.objs.size + 1) = some (excO C h.objs.size) := by heap_get
  have hcC : (Value.ref C :: bm).contains (.ref C) = true := by simp
  have i1 := hi.keeps k
  have b1 := (hb (.ref (h.objs.size + 1))).keeps k
  unfold isInstance
  repeat (first | with_reducible refine wpAny_loadPart_at hget ?_ | (with_reducible refine wpAny_isSubtype_exc hC₁ ?_; rw [hcC]) | wp_step)
  show wpAny _ _ (typeLookup (.ref C) _) _ _ _
  refine i1.at ?_
  refine wpAny_holding (wpAny_bind (b1.at ?_))
  refine wpAny_bind (wpAny_call (codeAny_mono hq fun r s' z => ?_))
  rcases r with e | (v | _ | _ | _) <;> first | exact z | exact z.elim | skip
  obtain ⟨rfl, z⟩ := z
  first
    | exact wpAny_pure (wpAny_pure z)
    | (wp_walk; exact z)

theorem call_ownK (F : ExcBaseFacts B newId initId bmB) (hT : ∀ X : String, bm.contains (.type X) = bmB.contains (.type X)) {rest : List Value} {kw : List (Str × Value)} {fI : Addr}
    (hC : h.get? C = some (excClassObj nm q C N bs bm hdct sn sub ab col dd k0 k1 k2 k3 k5 newId))
    (hi : W.Looks (model prog w) h (typeLookup (.ref C) "__init__") (some (.ref fI))) (hb : ∀ self, W.Looks (model prog w) h (bindSpecial (.ref fI) self) (.ref fI, [self])) (hrest : rest.length ≤ sizeLine)
    (hq : codeAny (model prog w) (A.under (.builtin "type.__call__" ⟨.ref C :: rest, kw⟩)) (.call (.ref fI) ⟨.ref (h.objs.size + 1) :: rest, kw⟩) (W.InitBack (h.objs.size + 1) R)
      ⟨(h.push (W.kdv_tup rest)).push (excO C h.objs.size), g, d, t, os⟩) :
    codeAny (model prog w) A (.call (.ref C) ⟨rest, kw⟩) R ⟨h, g, d, t, os⟩ := by
  have f1 := tc_lookup
  have f2 := tc_bind (.ref C)
  have hTy : (⟨h, g, d, t, os⟩ : Shared).TypeIs (.ref C) "type" := ⟨_, hC, rfl⟩
  refine codeAny_of_tree ?_
  show wpAny _ _ (callAny (.ref C) _) _ _ _
  repeat (any_goals (first | assumption | with_reducible refine wpAny_loadPart_at hC ?_ | wp_step))
  refine ⟨rfl, ?_⟩
  refine codeAny_call_builtin_at (Code.quiet_builtin _ (by decide +kernel)) entry_typeCall (wpAny_check_type_call_sub hC (type_call_ownK F hT hC hi hb hrest ?_))
  refine codeAny_mono hq fun r s' z => ?_
  rcases r with e | (v | _ | _ | _) <;> exact z
end
end LwX
end PySem

/-! ## LwF -/
set_option maxHeartbeats 4000000
namespace PySem
namespace LwX
open PySem.W PySem.Calls PyProof.Rows PySem.HandSPX
section
open Builtin Builtin.ObjectAttr
variable {prog : Program} {w : World} {A : Around} {E : Value → Shared → Prop} {R : Result → Shared → Prop} {hp : Heap} {g : Array GenState} {d : Drawn} {t : Nat} {os : OsState} {tl : List Value}
theorem osa_newT {K : W.Frag} (KT : TailOk tl) {name : Str} {tk : Tok} {v : Value} {x C : Addr} {fv : Array Value} {cd : ClassData}
    (X : K.In hp) (hx : hp.get? x = some { cls := .ref C, data := .fields fv }) (hcd : W.clsIn K C = some cd) (hm : refsT tl cd.mro = true) (hh : cd.hasDict = true) (ha : W.findIn K (.ref C) name = some none)
    (hq : ∀ h' tk' dx, (∀ b o, b ≠ x → hp.get? b = some o → h'.get? b = some o) → hp.objs.size ≤ dx → dx ≠ x → h'.get? x = some { cls := .ref C, dict := some dx, data := .fields fv } →
      h'.Ns1 dx (fun y => if y = name then some v else none) → R (.ok (.ret .none)) ⟨h', g, d, tk', os⟩) :
    codeAny (model prog w) A (.call (.builtin "object.__setattr__") ⟨[.ref x, .str name tk, v], []⟩) R ⟨hp, g, d, t, os⟩ := by
  have I : W.InstAt hp x { cls := .ref C, data := .fields fv } C none := ⟨hx, rfl, rfl, trivial⟩
  have SF := F.store_object
  have ne := refsT_ne KT hm
  have hob : cd.mro.contains (.type "object") = true := (refsT_contains KT "object" _ hm).trans KT.obj
  have hxs : x ≠ hp.objs.size := Nat.ne_of_lt (Heap.lt_size hx)
  have sub : W.Looks (model prog w) hp (isInstance (.ref x) (.type "object")) true := I.type.andThen (W.looks_mroIn X (by unfold W.mroIn; rw [hcd, Option.bind_some, if_neg (by rw [ne]; decide), hob]))
  refine codeAny_call_builtin SF.slot.plain SF.entry (@W.check_slot (model prog w) _ _ ⟨hp, g, d, t, os⟩ "object.__setattr__" "object" "__setattr__" (.ref x) [.str name tk, v] [] _ SF.kind SF.split sub (SF.args (.ref x) (.str name tk) v) ?_)
  have hmr : W.Looks (model prog w) hp (mroOf (.ref C)) cd.mro := (W.looks_clsIn X hcd).andThen .now
  have L3 : W.Looks (model prog w) hp (storeTaker? none) none := .now
  have hcls : W.Looks (model prog w) hp (classData C) cd := W.looks_clsIn X hcd
  rw [W.osa_eq, refuse_eq]
  refine wpAny_bind (wpAny_bind (I.type.at (wpAny_bind (hmr.at ?_))))
  rw [refsT_pass KT _ _ hm]
  refine wpAny_pure (wpAny_bind (I.type.at (wpAny_bind ((W.looks_findIn X ha).at (wpAny_bind (L3.at ?_))))))
  show wpAny _ _ (storeInOwnDict (.ref x) (.ref C) (.str name tk) name v false) _ _ _
  obtain ⟨nm, bs, mro, ns, qn, hd, sn, sb, ab, col, del⟩ := cd
  dsimp only at hh
  subst hh
  unfold storeInOwnDict ownDictForStores
  repeat (first | with_reducible refine store_in_new ?_ ?_ | with_reducible refine wpAny_loadPart_at hx ?_ | with_reducible refine hcls.at ?_ | wp_step)
  · exact ⟨_, #[], _, (Heap.get?_update_ne _ _ _ _ hxs.symm).trans (Heap.get?_push_at rfl rfl), rfl, fun e he => absurd he (by simp), fun _ => rfl⟩
  · intro h' tk' hn' hs
    have hx₁ : (hp.push { cls := .type "dict", data := .dict #[] }).get? x = some { cls := .ref C, data := .fields fv } := Heap.get?_push_of_some _ hx
    refine hq h' tk' hp.objs.size (fun b o hb ho => ?_) (Nat.le_refl _) hxs.symm ?_ hn'
    · exact (hs.2 b (Nat.ne_of_lt (Heap.lt_size ho))).trans ((Heap.get?_update_ne _ _ _ _ hb).trans (Heap.get?_push_of_some _ ho))
    · exact (hs.2 x hxs).trans (Heap.get?_update_self _ hx₁ rfl)
theorem osa_oldT {K : W.Frag} (KT : TailOk tl) {name : Str} {tk : Tok} {v : Value} {x C dx : Addr} {fv : Array Value} {cd : ClassData} {m0 : Str → Option Value} {nl : List Str}
    (X : K.In hp) (hx : hp.get? x = some { cls := .ref C, dict := some dx, data := .fields fv }) (hns : hp.Ns1 dx m0) (hw : Within m0 nl) (hz : nl.length ≤ 1000) (hcd : W.clsIn K C = some cd) (hm : refsT tl cd.mro = true) (hh : cd.hasDict = true)
    (ha : W.findIn K (.ref C) name = some none)
    (hq : ∀ h' tk', (∀ b o, b ≠ dx → hp.get? b = some o → h'.get? b = some o) → h'.Ns1 dx (fun y => if y = name then some v else m0 y) → R (.ok (.ret .none)) ⟨h', g, d, tk', os⟩) :
    codeAny (model prog w) A (.call (.builtin "object.__setattr__") ⟨[.ref x, .str name tk, v], []⟩) R ⟨hp, g, d, t, os⟩ := by
  obtain ⟨oD, esD, epD, hoD, hdD, _⟩ := hns.count hw
  have I : W.InstAt hp x { cls := .ref C, dict := some dx, data := .fields fv } C (some oD) := ⟨hx, rfl, rfl, hoD⟩
  have SF := F.store_object
  have ne := refsT_ne KT hm
  have hob : cd.mro.contains (.type "object") = true := (refsT_contains KT "object" _ hm).trans KT.obj
  have sub : W.Looks (model prog w) hp (isInstance (.ref x) (.type "object")) true := I.type.andThen (W.looks_mroIn X (by unfold W.mroIn; rw [hcd, Option.bind_some, if_neg (by rw [ne]; decide), hob]))
  refine codeAny_call_builtin SF.slot.plain SF.entry (@W.check_slot (model prog w) _ _ ⟨hp, g, d, t, os⟩ "object.__setattr__" "object" "__setattr__" (.ref x) [.str name tk, v] [] _ SF.kind SF.split sub (SF.args (.ref x) (.str name tk) v) ?_)
  have hmr : W.Looks (model prog w) hp (mroOf (.ref C)) cd.mro := (W.looks_clsIn X hcd).andThen .now
  have L3 : W.Looks (model prog w) hp (storeTaker? none) none := .now
  have hcls : W.Looks (model prog w) hp (classData C) cd := W.looks_clsIn X hcd
  rw [W.osa_eq, refuse_eq]
  refine wpAny_bind (wpAny_bind (I.type.at (wpAny_bind (hmr.at ?_))))
  rw [refsT_pass KT _ _ hm]
  refine wpAny_pure (wpAny_bind (I.type.at (wpAny_bind ((W.looks_findIn X ha).at (wpAny_bind (L3.at ?_))))))
  show wpAny _ _ (storeInOwnDict (.ref x) (.ref C) (.str name tk) name v false) _ _ _
  obtain ⟨nm, bs, mro, ns, qn, hd, sn, sb, ab, col, del⟩ := cd
  dsimp only at hh
  subst hh
  unfold storeInOwnDict ownDictForStores
  repeat (first | with_reducible refine PySem.OEX.store_in_old hns hw hz ?_ | with_reducible refine wpAny_loadPart_at hx ?_ | with_reducible refine hcls.at ?_ | wp_step)
  intro h' tk' hn' hs
  exact hq h' tk' (fun b o hb ho => (hs.2 b hb).trans ho) hn'
end
end LwX
end PySem

namespace Lw
open PySem PySem.Spec PyProof.Rows L2
open PySem.LwX (refsT TailOk tailOf refsT_contains refsT_ne)
/-- an exception class of the program, over the built-in class B -/
structure EC (K : PySem.W.Frag) (B : String) (C : Addr) : Prop where
  tail : TailOk (tailOf B)
  cls : ∃ newId initId nm q N bs bm sn sub ab col dd k0 k1 k2 k3 k5, ExcBaseFacts B newId initId (tailOf B) ∧ K.lookup C = some (excClassObj nm q C N bs bm true sn sub ab col dd k0 k1 k2 k3 k5 newId) ∧ refsT (tailOf B) bm = true
  sa : PySem.W.findIn K (.ref C) "__setattr__" = some (some (.builtin "object.__setattr__"))
  ga : PySem.W.findIn K (.ref C) "__getattribute__" = some (some (.builtin "BaseException.__getattribute__"))
  gg : PySem.W.findIn K (.ref C) "__getattr__" = some none
  ca : PySem.W.findIn K (.ref C) "__class__" = some (some (.builtin "object.__class__"))
  kC : PySem.W.keepIn K (.ref C) = true
theorem EC.clsIn {K : PySem.W.Frag} {B : String} {C : Addr} (T : EC K B C) : ∃ cd bm, PySem.W.clsIn K C = some cd ∧ cd.mro = .ref C :: bm ∧ refsT (tailOf B) bm = true ∧ cd.hasDict = true := by
  obtain ⟨_, _, nm, q, N, bs, bm, sn, sub, ab, col, dd, k0, k1, k2, k3, k5, _, hC, hbm⟩ := T.cls
  exact ⟨{ name := nm, bases := bs, mro := .ref C :: bm, ns := N, qualname := q, hasDict := true, slotNames := sn, subclasses := sub, abstract := ab, collection := col, hasDel := false }, bm, by unfold PySem.W.clsIn; rw [hC] <;> rfl, rfl, hbm, rfl⟩
theorem EC.hasBase {K : PySem.W.Frag} {B : String} {C : Addr} (T : EC K B C) : (tailOf B).contains (.type "BaseException") = true := by
  obtain ⟨_, _, nm, q, N, bs, bm, sn, sub, ab, col, dd, k0, k1, k2, k3, k5, F, hC, hbm⟩ := T.cls
  exact F.hasBase
theorem EC.subT {K : PySem.W.Frag} {B : String} {C : Addr} (T : EC K B C) (n : String) : PySem.W.subIn K (.ref C) (.type n) = some ((tailOf B).contains (.type n)) := by
  obtain ⟨cd, bm, h1, h2, h3, h4⟩ := T.clsIn
  show (PySem.W.clsIn K C).bind _ = _
  rw [h1, Option.bind_some, h2, if_neg (by simp), List.contains_cons, refsT_contains T.tail n bm h3]
  rfl
theorem EC.hd {K : PySem.W.Frag} {B : String} {C : Addr} (T : EC K B C) : PySem.W.hasDictIn K C = true := by
  obtain ⟨cd, bm, h1, h2, h3, h4⟩ := T.clsIn
  unfold PySem.W.hasDictIn
  rw [h1]
  exact h4
theorem EC.isCls {K : PySem.W.Frag} {B : String} {C : Addr} (T : EC K B C) : (PySem.W.clsIn K C).isSome = true := by
  obtain ⟨cd, bm, h1, _⟩ := T.clsIn
  rw [h1] <;> rfl
theorem EC.self {K : PySem.W.Frag} {B : String} {C : Addr} (T : EC K B C) : PySem.W.subIn K (.ref C) (.ref C) = some true := by
  obtain ⟨cd, bm, h1, h2, h3, h4⟩ := T.clsIn
  show (PySem.W.clsIn K C).bind _ = _
  rw [h1, Option.bind_some, h2, if_neg (by simp), List.contains_cons]
  simp
/-- isinstance's answer: a class of the program -/
theorem EC.kit {K : PySem.W.Frag} {B B' : String} {C D : Addr} {b : Bool} (T : EC K B C) (T' : EC K B' D) (tD : PySem.W.typeIn K (.ref D) = some (.type "type")) (h : PySem.W.subIn K (.ref C) (.ref D) = some b) : PySem.W.kitOne K (.ref C) (.ref D) = some b := by
  unfold PySem.W.kitOne
  split
  · rename_i e
    have e' : C = D := Value.ref.inj (beq_iff_eq.mp e)
    subst e'
    rw [T.self] at h
    exact h
  · show (if ((PySem.W.clsIn K D).isSome && PySem.W.typeIn K (.ref D) == some (.type "type")) = true then PySem.W.subIn K (.ref C) (.ref D) else none) = some b
    rw [if_pos (by rw [T'.isCls, tD] <;> rfl)]
    exact h
/-- .. a built-in class -/
theorem EC.kitT {K : PySem.W.Frag} {B : String} {C : Addr} (T : EC K B C) (n : String) (hm : PySem.W.kitMeta n = true) : PySem.W.kitOne K (.ref C) (.type n) = some ((tailOf B).contains (.type n)) := by
  unfold PySem.W.kitOne
  rw [if_neg (by simp)]
  show (if PySem.W.kitMeta n = true then PySem.W.subIn K (.ref C) (.type n) else none) = _
  rw [if_pos hm]
  exact T.subT n
section
variable {X : Cx} {pins : List (Addr × Obj)} {σ : L2.St} {H : Hp} {s : Shared} {a C dx : Addr} {f : Str} {y : V} {u : Value} {fs : List (Str × V)} {Q : Unit → Shared → Prop} {E : Value → Shared → Prop} {A : Around} {B : String}
/-- self.f = y, the first one -/
theorem ost_newT (T : EC X.K B C) (I : Inv X pins σ H s) (e : H a = some (exo a C none)) (hno : PySem.W.findIn X.K (.ref C) f = some none) (ry : RelV y u)
    (h : ∀ dx s', H dx = none → dx ≠ a → Inv X pins σ (upd (upd H dx (exd dx [(f, y)])) a (exo a C (some dx))) s' → Q () s') : wpAny (model X.prog X.w) A (setAttr (.ref a) f u) Q E s := by
  obtain ⟨cd, bm, hcl, hmro, hbm, hdct⟩ := T.clsIn
  obtain ⟨t1, ho⟩ := exo_at I.hok e
  obtain ⟨hp, g, d, t, os⟩ := s
  refine PySem.W.set_plain I.kIn (ox := { cls := .ref C, dict := none, data := .fields #[.ref t1, .none, .none, .none, .bool false, .none] }) (od := none) ⟨ho, rfl, rfl, trivial⟩ T.sa ?_
  refine PySem.LwX.osa_newT T.tail I.kIn ho hcl (by rw [hmro]; exact hbm) hdct hno (fun h' tk' dx k dn dne hx hn => ?_)
  have hnd : H dx = none := I.hok.fresh dn
  have nd : ∀ {b : Addr} {o : Obj}, hp.get? b = some o → b ≠ dx := fun {b o} q => Nat.ne_of_lt (Nat.lt_of_lt_of_le (Heap.lt_size q) dn)
  have na : ∀ {b : Addr}, H b = none → b ≠ a := fun {b} n z => by
    rw [z, e] at n
    cases n
  have Un1 : Un X.fs [] H (upd (upd H dx (exd dx [(f, y)])) a (exo a C (some dx))) hp h' := {
    keep := fun b o q n _ _ => k b o (na n) q
    slot := fun b o q n _ _ => ⟨o.slots, k b o (na n) q⟩
    free := fun b o q n _ => by rw [upd_ne (na n), upd_ne (nd q)]; exact n
    there := fun b o q _ => by
      by_cases hb : b = a
      · exact ⟨_, by rw [hb]; exact hx⟩
      · exact ⟨o, k b o hb q⟩
    tups := fun b xs q => by rw [upd_ne (at_ne e q exo_tup), upd_ne (ne_of_none q hnd)]; exact q
    frzs := fun b o v q => by rw [upd_ne (at_ne e q exo_frz), upd_ne (ne_of_none q hnd)]; exact q
    tbls := fun b ps q => ⟨#[], by rw [upd_ne (at_ne e q exo_tbl), upd_ne (ne_of_none q hnd), q]; simp⟩ }
  refine h dx _ hnd dne (I.un (t' := tk') Un1 fun b o q => ?_)
  by_cases hb : b = a
  · subst hb
    rw [upd_same] at q
    cases q
    exact exo_ok hx
  · rw [upd_ne hb] at q
    by_cases hd : b = dx
    · subst hd
      rw [upd_same] at q
      cases q
      exact exd_ok hn (relO_put (fs := []) ry fun g => True.intro)
    · rw [upd_ne hd] at q
      exact (I.hok b o q).stay (fun c v hc z => k c v (by
          rcases hc with hc | hc
          · rw [hc]
            exact hb
          · exact at_ne e hc exo_own) z)
        (fun c hc => by rw [upd_ne (at_ne e hc exo_own), upd_ne (ne_of_none hc hnd)]; exact hc) (fun c xs hc => by rw [upd_ne (at_ne e hc exo_tup), upd_ne (ne_of_none hc hnd)]; exact hc)
/-- self.f = y, a further one -/
theorem ost_oldT (T : EC X.K B C) (I : Inv X pins σ H s) (e : H a = some (exo a C (some dx))) (ed : H dx = some (exd dx fs)) (hl : fs.length ≤ 900) (hno : PySem.W.findIn X.K (.ref C) f = some none) (ry : RelV y u)
    (h : ∀ s', Inv X pins σ (upd H dx (exd dx ((f, y) :: fs))) s' → Q () s') : wpAny (model X.prog X.w) A (setAttr (.ref a) f u) Q E s := by
  obtain ⟨cd, bm, hcl, hmro, hbm, hdct⟩ := T.clsIn
  obtain ⟨t1, ho⟩ := exo_at I.hok e
  obtain ⟨mA, hns, rel⟩ := exd_at I.hok ed
  have hw := within_of rel
  obtain ⟨hp, g, d, t, os⟩ := s
  obtain ⟨oD, _, _, hoD, _, _⟩ := hns.count hw
  refine PySem.W.set_plain I.kIn (ox := { cls := .ref C, dict := some dx, data := .fields #[.ref t1, .none, .none, .none, .bool false, .none] }) (od := some oD) ⟨ho, rfl, rfl, hoD⟩ T.sa ?_
  refine PySem.LwX.osa_oldT T.tail I.kIn ho hns hw (by rw [List.length_map]; omega) hcl (by rw [hmro]; exact hbm) hdct hno (fun h' tk' k hn => ?_)
  have hd : ∃ o, h'.get? dx = some o := by
    obtain ⟨o, _, _, e', _⟩ := hn
    exact ⟨o, e'⟩
  exact h _ (I.write (t' := tk') (x := dx) (e := dx) (o := exd dx ((f, y) :: fs)) (by rw [ed]; exact True.intro) (.inl rfl) k hd (exd_ok hn (relO_put ry rel)))
end
/-- self.f = e -/
def tOstT (K : PySem.W.Frag) (f : Str) (to te : TE) : TS := fun D σ H => te σ H fun y H1 => to σ H1 fun x H2 => ∃ (a C : Addr) (B : String), x = .ref a ∧ EC K B C ∧ PySem.W.findIn K (.ref C) f = some none ∧
  ((H2 a = some (exo a C none) ∧ ∀ dx, H2 dx = none → dx ≠ a → D.nx σ (upd (upd H2 dx (exd dx [(f, y)])) a (exo a C (some dx)))) ∨
    ∃ (dx : Addr) (fs : List (Str × V)), H2 a = some (exo a C (some dx)) ∧ H2 dx = some (exd dx fs) ∧ fs.length ≤ 900 ∧ D.nx σ (upd H2 dx (exd dx ((f, y) :: fs))))
theorem ps_ostT {X : Cx} {o e : Expr} {to te : TE} {f : Str} {p' pos : Pos} (ho : PE X o to) (he : PE X e te) (hs : swapsWith e (some (.Attribute o f p')) pos.line X.env = pure false := by rfl) : PS X (.Assign [.Attribute o f p'] e pos) (tOstT X.K f to te) := by
  refine ⟨fun pins s σ H D I h => ?_⟩
  refine plainObj_wpAny_Assign_Attribute (thn (he.run pins s σ H _ I h) fun v s1 ⟨y, H1, I1, r1, q1⟩ => thn (ho.run pins s1 σ H1 _ I1 q1) fun u s2 ⟨x, H2, I2, r2, a, C, B, ex, T, hno, q⟩ => ?_) hs
  subst ex
  obtain rfl : u = Value.ref a := r2
  rcases q with ⟨ea, q⟩ | ⟨dx, fs, ea, ed, hl, q⟩
  · exact ost_newT T I2 ea hno r1 fun dx s' n ne J => ⟨σ, _, J, q dx n ne⟩
  · exact ost_oldT T I2 ea ed hl hno r1 fun s' J => ⟨σ, _, J, q⟩

/-! ### an exception as a value -/
/-- an exception of the class at C, not raised, its fields fs -/
def ErrAt (H : Hp) (x : V) (C : Addr) (fs : List (Str × V)) : Prop := ∃ a d, x = .ref a ∧ H a = some (exo a C (some d)) ∧ H d = some (exd d fs)
theorem ErrAt.same {H H' : Hp} {x : V} {C : Addr} {fs : List (Str × V)} (h : ErrAt H x C fs) (s : Same H H') : ErrAt H' x C fs := by
  obtain ⟨a, d, e, h1, h2⟩ := h
  exact ⟨a, d, e, s _ _ h1, s _ _ h2⟩
/-- one without fields -/
def Err0At (H : Hp) (x : V) (C : Addr) : Prop := ∃ a, x = .ref a ∧ H a = some (ExO (.ref C) a)
/-- some exception -/
def AnyErr (H : Hp) (x : V) (C : Addr) : Prop := (∃ fs, ErrAt H x C fs) ∨ Err0At H x C
/-- X(..), its own __init__ keeping sp; gV: the values and the keywords' values in the parameters' order -/
def tMkE (C : Addr) (sp : Sp) (n m : Nat) (gV : List V → List V → List V) (t tk : TA) : TE := fun σ H Q => t σ H fun vs H1 => tk σ H1 fun zs H2 => vs.length = n ∧ zs.length = m ∧ ∀ a, H2 a = none →
  sp (gV (.ref a :: vs) zs) (upd H2 a (exo a C none)) (fun v H3 => v = .non ∧ Q (.ref a) H3) E0
section
variable {X : Cx} {k n : Nat} {fI C : Addr} {fd : FuncData} {ps ks : List Str} {sp : Sp} {x : Str} {p pos : Pos} {e : Expr} {es : List Expr} {kws : List Keyword} {t tk : TA} {g : List Value → List Value → List Value} {gV : List V → List V → List V} {B : String}
theorem run_mkE {pins : List (Addr × Obj)} {σ : L2.St} {H : Hp} {s : Shared} {Q : VK} {us ws : List Value} {vs zs : List V} (T : EC X.K B C) (iC : PySem.W.findIn X.K (.ref C) "__init__" = some (some (.ref fI))) (tI : PySem.W.typeIn X.K (.ref fI) = some (.type "function"))
    (F : FnOk X.prog X.w X.K X.mg X.base CX0 k fI fd ps sp) (hr : Room (k + 1) X.A) (hb : KBn X.K fd ps (n + 1) ks g gV)
    (I : Inv X pins σ H s) (r : Vals vs us) (rz : Vals zs ws) (l1 : vs.length = n) (l2 : zs.length = ks.length) (hn : n ≤ 1000)
    (h : ∀ a, H a = none → sp (gV (.ref a :: vs) zs) (upd H a (exo a C none)) (fun v H3 => v = .non ∧ Q (.ref a) H3) E0) :
    wpAny (model X.prog X.w) X.A (call (.ref C) us (ks.zip ws)) (EP X pins σ Q) X.xe s := by
  obtain ⟨newId, initId, nm, q, N, bs, bm, sn, sub, ab, col, dd, k0, k1, k2, k3, k5, FB, hC, hbm⟩ := T.cls
  obtain ⟨hp, gs, dr, tkk, os⟩ := s
  have hsz : hp.objs.size ≤ hp.objs.size + 1 := Nat.le_succ _
  have hn1 : H (hp.objs.size + 1) = none := I.hok.fresh hsz
  have hq := h (hp.objs.size + 1) hn1
  have kk : ∀ b o, hp.get? b = some o → ((hp.push (PySem.W.kdv_tup us)).push (PySem.HandSPX.excO C hp.objs.size)).get? b = some o := fun b o e => Heap.get?_push_of_some _ (Heap.get?_push_of_some _ e)
  have hget : ((hp.push (PySem.W.kdv_tup us)).push (PySem.HandSPX.excO C hp.objs.size)).get? (hp.objs.size + 1) = some (PySem.HandSPX.excO C hp.objs.size) := by heap_get
  have I2 : Inv X pins σ (upd H (hp.objs.size + 1) (exo (hp.objs.size + 1) C none)) ⟨(hp.push (PySem.W.kdv_tup us)).push (PySem.HandSPX.excO C hp.objs.size), gs, dr, tkk, os⟩ :=
    I.laid (t' := tkk) (a := hp.objs.size + 1) (o := exo (hp.objs.size + 1) C none) (h' := (hp.push (PySem.W.kdv_tup us)).push (PySem.HandSPX.excO C hp.objs.size)) kk hsz (exo_ok hget)
  have r1 : Vals (V.ref (hp.objs.size + 1) :: vs) (Value.ref (hp.objs.size + 1) :: us) := .cons rfl r
  have r2 := hb.rel r1 rz
  have e1 : (Value.ref (hp.objs.size + 1) :: us).length = n + 1 := by rw [List.length_cons, ← Paired.length r, l1]
  have e2 : ws.length = ks.length := (Paired.length rz).symm.trans l2
  have hus : us.length ≤ sizeLine := by
    rw [← Paired.length r, sizeLine_eq]
    omega
  refine wpAny_call (PySem.LwX.call_ownK FB (fun Y => refsT_contains T.tail Y bm hbm) (I.kIn _ _ hC) (PySem.W.looks_findIn I.kIn iC) (fun self => PySem.W.bind_fn I.kIn self tI) hus
    (codeAny_mono (F.run _ X.stack _ _ ⟨Value.ref (hp.objs.size + 1) :: us, ks.zip ws⟩ (g (Value.ref (hp.objs.size + 1) :: us) ws) _ _ E0 (hr.make C us (ks.zip ws)) (I2.env0.make C us (ks.zip ws)) (hb.to _ (Value.ref (hp.objs.size + 1) :: us) ws I2.kIn e1 e2) r2 hq) fun r s' hq' => ?_))
  cases r with
  | error er => exact False.elim hq'
  | ok fl =>
    cases fl with
    | ret u =>
      obtain ⟨v, H', I3, rv, ev, q3⟩ := I2.after hq'
      subst ev
      exact ⟨rv, ⟨V.ref (hp.objs.size + 1), H', I3, rfl, q3⟩⟩
    | next => exact False.elim hq'
    | brk => exact False.elim hq'
    | cont => exact False.elim hq'
/-- X(e, ..) -/
theorem pe_mkE (T : EC X.K B C) (iC : PySem.W.findIn X.K (.ref C) "__init__" = some (some (.ref fI))) (tI : PySem.W.typeIn X.K (.ref fI) = some (.type "function"))
    (F : FnOk X.prog X.w X.K X.mg X.base CX0 k fI fd ps sp) (hr : Room (k + 1) X.A) (hb : KBn X.K fd ps (n + 1) [] g gV) (hn : n ≤ 1000) (hg : Gl X x) (hm : X.mg x = some (.ref C)) (ha : PA X (e :: es) t)
    (hdb : (x == ("__debug__" : Str)) = false := by decide) (he : starEach (e :: es) X.env = (false, eval e X.env) :: starEach es X.env := by rfl) (hpl : (backTo pos (starEach es X.env)).any (·.1) = false := by rfl) :
    PE X (.Call (.Name x p) (e :: es) [] pos) (tMkE C sp n 0 gV t tNil) := by
  refine ⟨fun pins s σ H Q I h => ?_⟩
  refine wpAny_Call_Name_kw (ld_glob I hg hm ?_ hdb)
  refine PySem.W.callWith_K (h₀ := X.base) I.ok.mod.kin T.kC (thn (ha.run pos pins s σ H _ I h) fun us s1 ⟨vs, H1, I1, r, l1, l2, q⟩ => ⟨I1.kIn, ?_⟩) he hpl
  exact run_mkE (ws := []) T iC tI F hr hb I1 r .nil l1 rfl hn q
/-- X(k = e, ..) -/
theorem pe_mkEK (T : EC X.K B C) (iC : PySem.W.findIn X.K (.ref C) "__init__" = some (some (.ref fI))) (tI : PySem.W.typeIn X.K (.ref fI) = some (.type "function"))
    (F : FnOk X.prog X.w X.K X.mg X.base CX0 k fI fd ps sp) (hr : Room (k + 1) X.A) (hb : KBn X.K fd ps 1 ks g gV) (hg : Gl X x) (hm : X.mg x = some (.ref C)) (hkw : PK X kws tk)
    (hall : (backToKw pos (keywordEach kws X.env)).all (·.1.isSome) = true := by rfl) (hks : (backToKw pos (keywordEach kws X.env)).filterMap (·.1) = ks := by rfl) (hdb : (x == ("__debug__" : Str)) = false := by decide)
    (hpl : ((backTo pos (starEach [] X.env)).any (·.1) || (backToKw pos (keywordEach kws X.env)).any (·.1.isNone)) = false := by rfl) :
    PE X (.Call (.Name x p) [] kws pos) (tMkE C sp 0 ks.length gV tNil tk) := by
  refine ⟨fun pins s σ H Q I h => ?_⟩
  refine wpAny_Call_Name_kw (ld_glob I hg hm ?_ hdb)
  refine PySem.W.callWith_KW0 (h₀ := X.base) I.ok.mod.kin T.kC hall ?_ hpl
  refine thn (hkw.run pos pins s σ H _ I h) fun ws s2 ⟨zs, H2, I2, rz, l1, l2, q2⟩ => ⟨I2.kIn, ?_⟩
  rw [hks]
  exact run_mkE (us := []) (vs := []) T iC tI F hr hb I2 .nil rz rfl l2 (by omega) q2
/-- X(), a class without an own __init__ -/
theorem pe_mkE0 {newId initId : String} (T : EC X.K B C) (FB : ExcBaseFacts B newId initId (tailOf B)) (q : PySem.W.excIn X.K C (tailOf B) newId = true) (hg : Gl X x) (hm : X.mg x = some (.ref C))
    (hdb : (x == ("__debug__" : Str)) = false := by decide) : PE X (.Call (.Name x p) [] [] pos) (fun σ H Q => ∀ y H', Same H H' → Err0At H' y C → Q y H') := by
  refine ⟨fun pins s σ H Q I h => ?_⟩
  refine wpAny_Call_Name_kw (ld_glob I hg hm ?_ hdb)
  refine PySem.W.callWith_K0 I.kIn T.kC ?_
  show wpAny _ _ (call (.ref C) []) _ _ _
  obtain ⟨bm, N, nm, qn, bs, hdct, sn, sub, ab, col, dd, k0, k1, k2, k3, k5, mN, hC, hN, hni, OT⟩ := exc_obj I.kIn q
  refine wpAny_call_exc_subT FB OT hC hN hni (fun h' a hm => ?_) (by show 0 ≤ sizeLine; omega)
  have hn : H a = none := I.hok.gone hm.new
  obtain ⟨t, ht, _, _⟩ := hm.there
  exact ⟨.ref a, upd H a (ExO (.ref C) a), I.laidN hm.keeps hm.new hn (exO_ok ht ⟨rfl, rfl⟩ rfl rfl rfl (show 4 < 6 by decide)), rfl, h _ _ (Same.new hn) ⟨a, rfl, upd_same⟩⟩
/-- x.f of an exception that isn't raised -/
def tEfld (K : PySem.W.Frag) (f : Str) (te : TE) : TE := fun σ H Q => te σ H fun x H1 => ∃ (C : Addr) (B : String) (fs : List (Str × V)) (v : V), ErrAt H1 x C fs ∧ EC K B C ∧ PySem.W.findIn K (.ref C) f = some none ∧ fs.lookup f = some v ∧ Q v H1
theorem pe_efld {f : Str} {te : TE} (he : PE X e te) (hb : attributeBase e f X.env (eval e X.env) = eval e X.env := by rfl) : PE X (.Attribute e f pos) (tEfld X.K f te) := by
  refine ⟨fun pins s σ H Q I h => ?_⟩
  refine attr_of hb (thn (he.run pins s σ H _ I h) fun u s1 ⟨x, H1, I1, rx, C, B, fs, v, ⟨a, d, ex, ha, hd⟩, T, hno, l, q⟩ => ?_)
  subst ex
  obtain rfl : u = Value.ref a := rx
  obtain ⟨t1, ho⟩ := exo_at I1.hok ha
  obtain ⟨mA, hns, hr⟩ := exd_at I1.hok hd
  obtain ⟨od, hod, hl⟩ := lookIn_ns hns
  obtain ⟨u, hu, ru⟩ := RelO.some_of (v := v) (o := mA f) (by rw [← l]; exact hr f)
  have J : PySem.W.InstAt s1.heap a { cls := .ref C, dict := some d, data := .fields #[.ref t1, .none, .none, .none, .bool false, .none] } C (some od) := ⟨ho, rfl, rfl, hod⟩
  have sb : PySem.W.subIn X.K (.ref C) (.type "BaseException") = some true := by
    rw [T.subT]
    have z := T.hasBase
    rw [z]
  exact HandSPX.exc_get I1.kIn J T.ga T.gg sb (PySem.W.findObj_own T.hd hno rfl (by rw [hl, hu])) (handed_of ru) ⟨v, H1, I1.tok _, ru, q⟩
/-- isinstance(x, c) of an exception that isn't raised -/
def rIsX (K : PySem.W.Frag) : List V → Hp → VK → Prop := fun xs H Q => ∃ (x c : V) (cv : Value) (b : Bool) (C : Addr) (B : String), xs = [x, c] ∧ ClsV c cv ∧ AnyErr H x C ∧ EC K B C ∧ PySem.W.kitOne K (.ref C) cv = some b ∧ Q (.bl b) H
theorem call_isX (hn : PySem.W.specialIn X.K (.builtin "object.__class__") "__get__" = some (some (.builtin "getset_descriptor.__get__"))) (ht : PySem.W.takesIn X.K (.builtin "object.__class__") = some true) : CallR X (.builtin "isinstance") (rIsX X.K) := by
  intro pins s σ H xs us Q I r h
  obtain ⟨x, c, cv, b, C, B, rfl, hcv, he, T, e, q⟩ := h
  obtain ⟨u1, u2, rfl, r1, r2⟩ := vals2 r
  have ec := hcv.eq r2
  subst ec
  have sb : PySem.W.subIn X.K (.ref C) (.type "BaseException") = some true := by
    rw [T.subT]
    have z := T.hasBase
    rw [z]
  have mo : PySem.W.mroIn X.K C (.type "object") = some true := by
    have z := T.subT "object"
    rw [T.tail.obj] at z
    exact z
  rcases he with ⟨fs, a, d, rfl, ha, hd⟩ | ⟨a, rfl, ha⟩
  · cases (show u1 = Value.ref a from r1)
    obtain ⟨t1, ho⟩ := exo_at I.hok ha
    obtain ⟨mA, hns, hr⟩ := exd_at I.hok hd
    obtain ⟨od, hod, hl⟩ := lookIn_ns hns
    have J : PySem.W.InstAt s.heap a { cls := .ref C, dict := some d, data := .fields #[.ref t1, .none, .none, .none, .bool false, .none] } C (some od) := ⟨ho, rfl, rfl, hod⟩
    exact PySem.W.kia_one (PySem.W.kitx_exc T.isCls T.ga T.gg sb T.ca hn ht mo) I.kIn J e (fun z => nomatch z) fun tk => ⟨.bl b, H, I.tok tk, rfl, q⟩
  · cases (show u1 = Value.ref a from r1)
    obtain ⟨⟨oe, vs, ho, hz, hd, _⟩, _, _⟩ := I.hok a _ ha
    have J : PySem.W.InstAt s.heap a oe C none := by
      obtain ⟨oc, odc, oda, osl⟩ := oe
      obtain ⟨h1, h2⟩ := hz
      dsimp only at h1 h2 hd
      subst h1 h2 hd
      exact ⟨ho, rfl, rfl, trivial⟩
    exact PySem.W.kia_one (PySem.W.kitx_exc T.isCls T.ga T.gg sb T.ca hn ht mo) I.kIn J e (fun z => nomatch z) fun tk => ⟨.bl b, H, I.tok tk, rfl, q⟩
end
end Lw

/-! ## LwK -/
set_option maxHeartbeats 4000000
namespace Lw
open PySem PySem.Spec PyProof.Rows L2
/-- an __init__ that stores its parameters -/
def spI (K : PySem.W.Frag) (ps : List Str) (C : Addr) : Sp := fun vs H Q _ => ∃ (a : Addr) (zs : List V) (B : String), vs = .ref a :: zs ∧ zs.length = ps.length ∧ H a = some (exo a C none) ∧ EC K B C ∧ (∀ f ∈ ps, PySem.W.findIn K (.ref C) f = some none) ∧
  ∀ H', (∀ b o, H b = some o → b ≠ a → H' b = some o) → ErrAt H' (.ref a) C ((ps.zip zs).reverse) → Q .non H'
section
variable {P : Program} {w : World} {K : PySem.W.Frag} {mg : Str → Option Value} {base : Heap} {f C : Addr} {fd : FuncData} {qual : Str} {st : Stmt}
theorem ok_init1 {n : Str} {p1 p2 p3 p4 : Pos} (F : Fun K "__init__" qual st f fd) (S : FnScope ["self", n] ["self", n] (defScope st)) (hb : defBody st = [.Assign [.Attribute (.Name "self" p1) n p2] (.Name n p3) p4])
    (v0 : (defScope st).names.lookup ("self" : Str) = some .local) (v1 : (defScope st).names.lookup n = some .local) (d1 : (n == ("__debug__" : Str)) = false) (d2 : (n == ("__classdict__" : Str)) = false) : FnOk P w K mg base CX0 1 f fd ["self", n] (spI K [n] C) := by
  refine F.ok S (fun vs H Q E h => ?_) (fun cdv A outer s H vs Q E hr h => ?_)
  · obtain ⟨a, zs, B, rfl, hl, _⟩ := h
    show zs.length + 1 = 2
    rw [hl] <;> rfl
  · obtain ⟨a, zs, B, rfl, hl, ha, T, no, k⟩ := h
    match zs, hl with
    | [z], _ =>
      rw [hb]
      refine ⟨_, pss_one (ps_ostT (pv 0 rfl (.inl v0)) (pv 1 rfl (.inl v1) d1 d2)), ?_⟩
      refine ⟨_, rfl, _, rfl, a, C, B, rfl, T, no n List.mem_cons_self, .inl ⟨ha, fun dx hd hne => ?_⟩⟩
      refine k _ (fun b o e hba => ?_) ⟨a, dx, rfl, upd_same, ?_⟩
      · rw [upd_ne hba, upd_ne (ne_of_none e hd)]
        exact e
      · rw [upd_ne hne, upd_same] <;> rfl
theorem ok_init2 {n m : Str} {p1 p2 p3 p4 q1 q2 q3 q4 : Pos} (F : Fun K "__init__" qual st f fd) (S : FnScope ["self", n, m] ["self", n, m] (defScope st))
    (hb : defBody st = [.Assign [.Attribute (.Name "self" p1) n p2] (.Name n p3) p4, .Assign [.Attribute (.Name "self" q1) m q2] (.Name m q3) q4])
    (v0 : (defScope st).names.lookup ("self" : Str) = some .local) (v1 : (defScope st).names.lookup n = some .local) (v2 : (defScope st).names.lookup m = some .local) (d1 : (n == ("__debug__" : Str)) = false) (d2 : (n == ("__classdict__" : Str)) = false)
    (d3 : (m == ("__debug__" : Str)) = false) (d4 : (m == ("__classdict__" : Str)) = false) : FnOk P w K mg base CX0 1 f fd ["self", n, m] (spI K [n, m] C) := by
  refine F.ok S (fun vs H Q E h => ?_) (fun cdv A outer s H vs Q E hr h => ?_)
  · obtain ⟨a, zs, B, rfl, hl, _⟩ := h
    show zs.length + 1 = 3
    rw [hl] <;> rfl
  · obtain ⟨a, zs, B, rfl, hl, ha, T, no, k⟩ := h
    match zs, hl with
    | [z, y], _ =>
      rw [hb]
      refine ⟨_, pss_cons (ps_ostT (pv 0 rfl (.inl v0)) (pv 1 rfl (.inl v1) d1 d2)) (pss_one (ps_ostT (pv 0 rfl (.inl v0)) (pv 2 rfl (.inl v2) d3 d4))), ?_⟩
      refine ⟨_, rfl, _, rfl, a, C, B, rfl, T, no n List.mem_cons_self, .inl ⟨ha, fun dx hd hne => ?_⟩⟩
      refine ⟨_, rfl, _, rfl, a, C, B, rfl, T, no m (List.mem_cons_of_mem _ List.mem_cons_self), .inr ⟨dx, [(n, z)], upd_same, ?_, by show 1 ≤ 900; decide, ?_⟩⟩
      · rw [upd_ne hne, upd_same]
      · have hda : a ≠ dx := fun z => hne z.symm
        have had : dx ≠ a := hne
        refine k _ (fun b o e hba => ?_) ⟨a, dx, rfl, ?_, upd_same⟩
        · have hbd := ne_of_none e hd
          rw [upd_ne hbd, upd_ne hba, upd_ne hbd]
          exact e
        · rw [upd_ne hda, upd_same]
end
/-- an exception class of the program whose __init__ stores its parameters -/
structure Ex (P : Program) (w : World) (K : PySem.W.Frag) (mg : Str → Option Value) (base : Heap) (x : Str) (B : String) (C : Addr) (ps : List Str) : Prop where
  ec : EC K B C
  mgC : mg x = some (.ref C)
  no : ∀ f ∈ ps, PySem.W.findIn K (.ref C) f = some none
  ini : ∃ (fI : Addr) (fd : FuncData), PySem.W.findIn K (.ref C) "__init__" = some (some (.ref fI)) ∧ PySem.W.typeIn K (.ref fI) = some (.type "function") ∧ FnOk P w K mg base CX0 1 fI fd (("self" : Str) :: ps) (spI K ps C) ∧
    (∀ us : List Value, us.length = ps.length + 1 → bindArgs fd ⟨us, []⟩ = pure ((("self" : Str) :: ps).zip us)) ∧ (∀ (u : Value) (ws : List Value), ws.length = ps.length → bindArgs fd ⟨[u], ps.zip ws⟩ = pure ((("self" : Str) :: ps).zip (u :: ws))) ∧
    (∀ (u : Value) (ws : List Value), ws.length = ps.length → bindArgs fd ⟨[u], ps.reverse.zip ws⟩ = pure ((("self" : Str) :: ps).zip (u :: ws.reverse)))
/-- a new exception -/
def tErr (C : Addr) (ps : List Str) (g : List V → List V) (t : TA) : TE := fun σ H Q => t σ H fun vs H1 => vs.length = ps.length ∧ ∀ y H2, Same H1 H2 → ErrAt H2 y C ((ps.zip (g vs)).reverse) → Q y H2
theorem err_sp {K : PySem.W.Frag} {ps : List Str} {C : Addr} {B : String} {H : Hp} {Q : VK} {a : Addr} {zs : List V} (T : EC K B C) (no : ∀ f ∈ ps, PySem.W.findIn K (.ref C) f = some none) (hl : zs.length = ps.length) (ha : H a = none)
    (q : ∀ y H2, Same H H2 → ErrAt H2 y C ((ps.zip zs).reverse) → Q y H2) : spI K ps C (.ref a :: zs) (upd H a (exo a C none)) (fun v H3 => v = .non ∧ Q (.ref a) H3) E0 :=
  ⟨a, zs, B, rfl, hl, upd_same, T, no, fun H' k e => ⟨rfl, q _ _ (fun b o h => k b o (by rw [upd_ne (ne_of_none h ha)]; exact h) (ne_of_none h ha)) e⟩⟩
theorem vals_reverse {vs : List V} {us : List Value} (r : Vals vs us) : Vals vs.reverse us.reverse := by
  induction r with
  | nil => exact .nil
  | cons h t ih =>
    rw [List.reverse_cons, List.reverse_cons]
    exact ih.append (.cons h .nil)
section
variable {X : Cx} {k : Nat} {x : Str} {B : String} {C : Addr} {ps : List Str} {p pos : Pos} {e : Expr} {es : List Expr} {kws : List Keyword} {t tk : TA}
theorem pe_x (M : Ex X.prog X.w X.K X.mg X.base x B C ps) (hr : RoomG k X.A) (hk : 2 ≤ k) (hg : Gl X x) (hn : ps.length ≤ 1000) (ha : PA X (e :: es) t)
    (hdb : (x == ("__debug__" : Str)) = false := by decide) (he : starEach (e :: es) X.env = (false, eval e X.env) :: starEach es X.env := by rfl) (hpl : (backTo pos (starEach es X.env)).any (·.1) = false := by rfl) :
    PE X (.Call (.Name x p) (e :: es) [] pos) (tErr C ps id t) := by
  obtain ⟨fI, fd, iC, tI, F, b, _⟩ := M.ini
  refine ⟨fun pins s σ H Q I h => ?_⟩
  refine wpAny_Call_Name_kw (ld_glob I hg M.mgC ?_ hdb)
  refine PySem.W.callWith_K (h₀ := X.base) I.ok.mod.kin M.ec.kC (thn (ha.run pos pins s σ H _ I h) fun us s1 ⟨vs, H1, I1, r, l1, q⟩ => ⟨I1.kIn, ?_⟩) he hpl
  have kb : KBn X.K fd (("self" : Str) :: ps) (ps.length + 1) [] (fun us _ => us) (fun vs _ => vs) := ⟨fun s us ws _ h1 _ => .of_eq (b us h1), fun r _ => r⟩
  exact run_mkE (n := ps.length) (ws := []) (zs := []) M.ec iC tI F (hr.rm.mono hk) kb I1 r .nil l1 rfl hn fun a hn => err_sp M.ec M.no l1 hn q
theorem pe_xk (M : Ex X.prog X.w X.K X.mg X.base x B C ps) (hr : RoomG k X.A) (hk : 2 ≤ k) (hg : Gl X x) (hkw : PK X kws tk)
    (hall : (backToKw pos (keywordEach kws X.env)).all (·.1.isSome) = true := by rfl) (hks : (backToKw pos (keywordEach kws X.env)).filterMap (·.1) = ps := by rfl) (hdb : (x == ("__debug__" : Str)) = false := by decide)
    (hpl : ((backTo pos (starEach [] X.env)).any (·.1) || (backToKw pos (keywordEach kws X.env)).any (·.1.isNone)) = false := by rfl) : PE X (.Call (.Name x p) [] kws pos) (tErr C ps id tk) := by
  obtain ⟨fI, fd, iC, tI, F, _, b, _⟩ := M.ini
  refine ⟨fun pins s σ H Q I h => ?_⟩
  refine wpAny_Call_Name_kw (ld_glob I hg M.mgC ?_ hdb)
  refine PySem.W.callWith_KW0 (h₀ := X.base) I.ok.mod.kin M.ec.kC hall ?_ hpl
  refine thn (hkw.run pos pins s σ H _ I h) fun ws s2 ⟨zs, H2, I2, rz, l2, q2⟩ => ⟨I2.kIn, ?_⟩
  rw [hks]
  have kb : KBn X.K fd (("self" : Str) :: ps) (0 + 1) ps (fun us ws => us ++ ws) (fun vs zs => vs ++ zs) := ⟨fun s us ws _ h1 h2 => by
    match us, h1 with
    | [u], _ => exact .of_eq (b u ws h2), fun r1 r2 => r1.append r2⟩
  exact run_mkE (n := 0) (us := []) (vs := []) M.ec iC tI F (hr.rm.mono hk) kb I2 .nil rz rfl l2 (by omega) fun a hn => err_sp M.ec M.no l2 hn q2
theorem pe_xr (M : Ex X.prog X.w X.K X.mg X.base x B C ps) (hr : RoomG k X.A) (hk : 2 ≤ k) (hg : Gl X x) (hkw : PK X kws tk)
    (hall : (backToKw pos (keywordEach kws X.env)).all (·.1.isSome) = true := by rfl) (hks : (backToKw pos (keywordEach kws X.env)).filterMap (·.1) = ps.reverse := by rfl) (hdb : (x == ("__debug__" : Str)) = false := by decide)
    (hpl : ((backTo pos (starEach [] X.env)).any (·.1) || (backToKw pos (keywordEach kws X.env)).any (·.1.isNone)) = false := by rfl) : PE X (.Call (.Name x p) [] kws pos) (tErr C ps List.reverse tk) := by
  obtain ⟨fI, fd, iC, tI, F, _, _, b⟩ := M.ini
  refine ⟨fun pins s σ H Q I h => ?_⟩
  refine wpAny_Call_Name_kw (ld_glob I hg M.mgC ?_ hdb)
  refine PySem.W.callWith_KW0 (h₀ := X.base) I.ok.mod.kin M.ec.kC hall ?_ hpl
  refine thn (hkw.run pos pins s σ H _ I h) fun ws s2 ⟨zs, H2, I2, rz, l2, q2⟩ => ⟨I2.kIn, ?_⟩
  rw [hks]
  have kb : KBn X.K fd (("self" : Str) :: ps) (0 + 1) ps.reverse (fun us ws => us ++ ws.reverse) (fun vs zs => vs ++ zs.reverse) := ⟨fun s us ws _ h1 h2 => by
    match us, h1 with
    | [u], _ => exact .of_eq (b u ws (by rw [h2, List.length_reverse])), fun r1 r2 => r1.append (vals_reverse r2)⟩
  have l3 : zs.reverse.length = ps.length := by rw [List.length_reverse]; exact l2
  exact run_mkE (n := 0) (us := []) (vs := []) M.ec iC tI F (hr.rm.mono hk) kb I2 .nil rz rfl (by rw [List.length_reverse]; exact l2) (by omega) fun a hn => err_sp M.ec M.no l3 hn q2
end
/-- an exception class without an own __init__ -/
structure Ex0 (K : PySem.W.Frag) (mg : Str → Option Value) (x : Str) (B : String) (C : Addr) : Prop where
  ec : EC K B C
  mgC : mg x = some (.ref C)
  ex : ∃ newId initId, ExcBaseFacts B newId initId (PySem.LwX.tailOf B) ∧ PySem.W.excIn K C (PySem.LwX.tailOf B) newId = true
def tErr0 (C : Addr) : TE := fun σ H Q => ∀ y H', Same H H' → Err0At H' y C → Q y H'
theorem pe_x0 {X : Cx} {x : Str} {B : String} {C : Addr} {p pos : Pos} (M : Ex0 X.K X.mg x B C) (hg : Gl X x) (hdb : (x == ("__debug__" : Str)) = false := by decide) : PE X (.Call (.Name x p) [] [] pos) (tErr0 C) := by
  obtain ⟨newId, initId, F, q⟩ := M.ex
  exact pe_mkE0 M.ec F q hg M.mgC hdb
end Lw

/-! ## Fx1 -/
set_option maxHeartbeats 4000000
/-! Promises of defs that may raise, called where no guard of the C level is set. -/
namespace Lw
open PySem PySem.Spec PyProof.Rows L2
/-- the def at f keeps the promise sp, exceptions and all -/
structure FnX (P : Program) (w : World) (K : PySem.W.Frag) (mg : Str → Option Value) (base : Heap) (k : Nat) (f : Addr) (fd : FuncData) (ps : List Str) (sp : Sp) : Prop where
  len : ∀ vs H Q E, sp vs H Q E → vs.length = ps.length
  run : ∀ (A : Around) (outer : List Env) (s : Shared) (H : Hp) (args : Args) (us : List Value) (vs : List V) (Q : VK) (E : XK), RoomG k A → Env0 P w K mg base A outer s H → BindsTo s fd args (ps.zip us) → Vals vs us → sp vs H Q E →
    codeAny (model P w) A (.call (.ref f) args) (CR (L2N.CX P w) outer P w H s Q E) s
section
variable {P : Program} {w : World} {K : PySem.W.Frag} {mg : Str → Option Value} {base : Heap} {k : Nat} {f : Addr} {fd : FuncData} {ps : List Str} {sp sp' : Sp}
theorem FnX.mono {j : Nat} (F : FnX P w K mg base j f fd ps sp) (h : j ≤ k) : FnX P w K mg base k f fd ps sp := ⟨F.len, fun A outer s H args us vs Q E hr => F.run A outer s H args us vs Q E (hr.mono h)⟩
theorem FnX.imp (F : FnX P w K mg base k f fd ps sp) (h : ∀ vs H Q E, sp' vs H Q E → sp vs H Q E) : FnX P w K mg base k f fd ps sp' :=
  ⟨fun vs H Q E q => F.len vs H Q E (h _ _ _ _ q), fun A outer s H args us vs Q E hr he hb hv hs => F.run A outer s H args us vs Q E hr he hb hv (h _ _ _ _ hs)⟩
/-- one that raises nothing -/
theorem FnG.x (F : FnG P w K mg base k f fd ps sp) : FnX P w K mg base k f fd ps (fun vs H Q _ => sp vs H Q E0) :=
  ⟨fun vs H Q E h => F.len vs H Q E0 h, fun A outer s H args us vs Q E hr he hb hv hs => codeAny_mono (F.run A outer s H args us vs Q hr he hb hv hs) fun r s' h => by
    cases r with
    | error e => exact False.elim h
    | ok fl =>
      cases fl with
      | ret u => exact h
      | next => exact False.elim h
      | brk => exact False.elim h
      | cont => exact False.elim h⟩
/-- a def of the text, by its body -/
theorem okX {x qual : Str} {st : Stmt} {N : List Str} (F : Fun K x qual st f fd) (S : FnScope N ps (defScope st)) (len : ∀ vs H Q E, sp vs H Q E → vs.length = ps.length)
    (hbody : ∀ (cdv : Value) (A : Around) (outer : List Env) (s : Shared) (H : Hp) (vs : List V) (Q : VK) (E : XK), RoomG k (A.deeper (envOfC qual (defScope st) s.heap.objs.size f cdv)) → sp vs H Q E →
      ∃ t, PSs (cxOf (L2N.CX P w) P w K mg base N qual (defScope st) f cdv A outer s H E) (defBody st) t ∧ t { nx := fun _ H' => Q .non H', rt := Q } (start N vs) H) : FnX P w K mg base (k + 1) f fd ps sp := by
  obtain ⟨oc, od, kV, doc, pm, an, cdv, ct, osl, rfl, lk, hcd⟩ := F.ex
  refine ⟨len, fun A outer s H args us vs Q E hr e0 hb r hsp => ?_⟩
  have below : ∀ b o, base.get? b = some o → s.heap.get? b = some o := fun b o e => (e0.bs b o e).1
  have KX := e0.mod.kin.keeps below
  have lim := e0.mod.nolimit.keeps below
  have bound : ∀ y ∈ ps.zip us, (defScope st).names.lookup y.1 = some .local ∨ ((defScope st).names.lookup y.1 = some .cell ∧ ((cellsFrom (s.heap.objs.size + 1) (defScope st).names []).lookup y.1).isSome = true) := fun ⟨n, v⟩ hy =>
    (S.par n (List.of_mem_zip hy).1).elim .inl fun q => .inr ⟨q, PySem.W.cellsFrom_some _ _ _ (.inl q)⟩
  refine codeAny_call_function hr.rm.depth (KX _ _ lk) rfl S.co S.gen rfl (PySem.W.codeRec_of KX hcd) (hb _ _ _ _ ?_)
  refine wpAny_newFunctionEnv_cells S.kind bound fun env he s1 x => ?_
  subst he
  refine ⟨lim.keeps x.toInCall.keep, codeAny_func ?_⟩
  obtain ⟨t, ht, hq⟩ := hbody cdv A outer s H vs Q E (hr.deeper _) hsp
  have I := inv_start (CX := L2N.CX P w) (E := E) S hr.rm.hd e0 (len _ _ _ _ hsp) r x
  refine wpAny_mono (ht.run [] s1 (start N vs) H _ I hq) (fun fl s' hs => ?_) fun e s' hs => hs
  cases fl with
  | ret u =>
    obtain ⟨v, σ', H', J, rv, q⟩ := hs
    exact ⟨v, H', J.os, J.bare, J.base, J.hok, rv, q⟩
  | next =>
    obtain ⟨σ', H', J, q⟩ := hs
    exact ⟨V.non, H', J.os, J.bare, J.base, J.hok, rfl, q⟩
  | brk => exact hs.elim fun _ h => h.elim fun _ h => h.2.elim
  | cont => exact hs.elim fun _ h => h.elim fun _ h => h.2.elim
/-- what leaves such a def's body -/
theorem takesX {N : List Str} {qual : Str} {scope : Scope} {cdv : Value} {A : Around} {outer : List Env} {s : Shared} {H : Hp} {E : XK} : L2N.Takes (cxOf (L2N.CX P w) P w K mg base N qual scope f cdv A outer s H E) (fun cls d _ H => E cls d H) := L2N.takes_of rfl rfl rfl rfl
end
/-- a def of the module, by its promise -/
structure CalX (P : Program) (w : World) (K : PySem.W.Frag) (mg : Str → Option Value) (base : Heap) (k : Nat) (x : Str) (ps : List Str) (sp : Sp) : Prop where
  ex : ∃ (f : Addr) (fd : FuncData), FnX P w K mg base k f fd ps sp ∧ mg x = some (.ref f) ∧ PySem.W.keepIn K (.ref f) = true ∧ (∀ us : List Value, us.length = ps.length → bindArgs fd ⟨us, []⟩ = pure (ps.zip us)) ∧
    (∀ u : Value, ps.length = 1 → bindArgs fd ⟨[], ps.zip [u]⟩ = pure (ps.zip [u]))
/-- a def of the class's body -/
structure MtX (P : Program) (w : World) (K : PySem.W.Frag) (mg : Str → Option Value) (base : Heap) (k : Nat) (C : Addr) (m : Str) (ps : List Str) (sp : Sp) : Prop where
  ex : ∃ (f : Addr) (fd : FuncData), FnX P w K mg base k f fd ps sp ∧ Meth K C m f ∧ (∀ us : List Value, us.length = ps.length → bindArgs fd ⟨us, []⟩ = pure (ps.zip us)) ∧
    (∀ (u v : Value) (a b : Str), ps = [a, b] → bindArgs fd ⟨[u], [(b, v)]⟩ = pure ([a, b].zip [u, v]))
/-- what a call raises is taken by W, where the names are σ -/
abbrev WX.at_ (W : WX) (σ : L2.St) : XK := fun cls d H => W cls d σ H
section
variable {X : Cx} {W : WX} {k j : Nat} {C : Addr} {x m : Str} {ps : List Str} {sp : Sp} {p pos apos : Pos} {o e : Expr} {es : List Expr} {kws : List Keyword} {ta : TE} {t tk : TA}
theorem run_x {A : Around} {f : Addr} {fd : FuncData} {args : Args} {us : List Value} {vs : List V} {pins : List (Addr × Obj)} {σ : L2.St} {H : Hp} {s : Shared} {Q : VK} (F : FnX X.prog X.w X.K X.mg X.base k f fd ps sp) (hr : RoomG k A) (hf : A.frames = X.A.frames) (T : L2N.Takes X W)
    (b : bindArgs fd args = pure (ps.zip us)) (I : Inv X pins σ H s) (r : Vals vs us) (h : sp vs H Q (WX.at_ W σ)) :
    codeAny (model X.prog X.w) A (.call (.ref f) args) (fun r s' => match r with | .ok (.ret u) => EP X pins σ Q u s' | .ok _ => False | .error e => X.xe e s') s := by
  have e0 : Env0 X.prog X.w X.K X.mg X.base A X.stack s H := by
    have e := I.env0
    exact ⟨by rw [hf]; exact e.frames, e.mod, e.bs, e.bsz, e.funs, e.frf, e.hok, e.bare⟩
  refine codeAny_mono (F.run A X.stack s H args us vs Q _ hr e0 (.of_eq b) r h) fun r s' hq => ?_
  cases r with
  | error e => exact T e s' (L2N.XE.of_call I (fun _ _ _ h => h) hq)
  | ok fl =>
    cases fl with
    | ret u => exact I.after hq
    | next => exact hq
    | brk => exact hq
    | cont => exact hq
/-- f(e, ..), which may raise -/
def tCallX (sp : Sp) (W : WX) (t : TA) : TE := fun σ H Q => t σ H fun vs H1 => sp vs H1 Q (WX.at_ W σ)
theorem pe_cx (c : CalX X.prog X.w X.K X.mg X.base k x ps sp) (hr : RoomG j X.A) (hk : k ≤ j) (T : L2N.Takes X W) (hg : Gl X x) (ha : PA X (e :: es) t)
    (hdb : (x == ("__debug__" : Str)) = false := by decide) (he : starEach (e :: es) X.env = (false, eval e X.env) :: starEach es X.env := by rfl) (hpl : (backTo pos (starEach es X.env)).any (·.1) = false := by rfl) :
    PE X (.Call (.Name x p) (e :: es) [] pos) (tCallX sp W t) := by
  obtain ⟨f, fd, F, hm, kp, b, _⟩ := c.ex
  refine ⟨fun pins s σ H Q I h => ?_⟩
  refine wpAny_Call_Name_kw (ld_glob I hg hm ?_ hdb)
  refine PySem.W.callWith_K (h₀ := X.base) I.ok.mod.kin kp (thn (ha.run pos pins s σ H _ I h) fun us s1 ⟨vs, H1, I1, r, q⟩ => ⟨I1.kIn, ?_⟩) he hpl
  show wpAny _ _ (call (.ref f) us) _ _ _
  exact wpAny_call (codeAny_mono (run_x F (hr.mono hk) rfl T (b us (by rw [← r.length]; exact F.len _ _ _ _ q)) I1 r q) fun r s' z => by
    rcases r with e | (v | _ | _ | _) <;> exact z)
/-- o.m(e, ..), which may raise -/
def tMeX (C : Addr) (m : Str) (sp : Sp) (W : WX) (ta : TE) (t : TA) : TE := fun σ H Q => ta σ H fun x H1 => ∃ a dx fs, x = .ref a ∧ H1 a = some (.ins C dx fs) ∧ fs.lookup m = none ∧ t σ H1 fun vs H2 => sp (x :: vs) H2 Q (WX.at_ W σ)
theorem pe_mx {pl : Sem Bool} (he : PE X o ta) (c : Cls X.K C) (M : MtX X.prog X.w X.K X.mg X.base k C m ps sp) (hr : RoomG j X.A) (hk : k ≤ j) (T : L2N.Takes X W) (ha : PA X (e :: es) t)
    (hst : starEach (e :: es) X.env = (false, eval e X.env) :: starEach es X.env := by rfl) (hpl : (backTo pos (starEach es X.env)).any (·.1) = false := by rfl)
    (ht : eval (.Call (.Attribute o m apos) (e :: es) [] pos) X.env = (do
      let ov ← eval o X.env
      standAt apos.atName
      let (f, first) ← holding [ov] (getMethod ov m pl)
      callWith pos f first (backTo pos (starEach (e :: es) X.env)) (backToKw pos (keywordEach [] X.env))) := by rfl) :
    PE X (.Call (.Attribute o m apos) (e :: es) [] pos) (tMeX C m sp W ta t) := by
  obtain ⟨f, fd, F, hm, b, _⟩ := M.ex
  refine ⟨fun pins s σ H Q I h => ?_⟩
  refine PySem.W.methodCall_KW (pl := pl) (thn (he.run pins s σ H _ I h) fun u s1 ⟨x, H1, I1, rx, a, dx, fs, ex, ea, l, q⟩ => ?_) ht
  subst ex
  obtain rfl : u = Value.ref a := rx
  refine getmeth_ok I1 ea c hm l ?_
  refine PySem.W.callWith_K (first := [.ref a]) (h₀ := X.base) I.ok.mod.kin hm.kp (thn (ha.run pos pins s1 σ H1 _ I1 q) fun us s2 ⟨vs, H2, I2, r, q2⟩ => ⟨I2.kIn, ?_⟩) hst hpl
  have r2 : Vals (V.ref a :: vs) (Value.ref a :: us) := .cons rfl r
  exact wpAny_call (codeAny_mono (run_x F (hr.mono hk) rfl T (b (Value.ref a :: us) (by rw [← r2.length]; exact F.len _ _ _ _ q2)) I2 r2 q2) fun r s' z => by
    rcases r with e | (v | _ | _ | _) <;> exact z)
/-- a op b by the own method of a's class, which may raise what E tells -/
def rOwnX (K : PySem.W.Frag) (C : Addr) (sp : Sp) (E : XK) (Y : V → Hp → Prop) : R2 := fun x y H Q => ∃ a, x = .ref a ∧ Is C H a ∧ Y y H ∧ sp [x, y] H Q E
theorem call_binX {pins : List (Addr × Obj)} {σ : L2.St} {H : Hp} {s : Shared} {Q : VK} {f : Addr} {fd : FuncData} {us : List Value} {vs : List V} (F : FnX X.prog X.w X.K X.mg X.base k f fd ps sp) (hr : RoomG k X.A) (T : L2N.Takes X W) (b : bindArgs fd ⟨us, []⟩ = pure (ps.zip us)) (I : Inv X pins σ H s) (r : Vals vs us) (h : sp vs H Q (WX.at_ W σ)) :
    wpAny (model X.prog X.w) X.A (call (.ref f) us) (PySem.W.CmpBack (EP X pins σ Q)) X.xe s := by
  refine wpAny_call (codeAny_mono (run_x F hr rfl T b I r h) fun r s' z => ?_)
  cases r with
  | error e => exact z
  | ok fl =>
    cases fl with
    | ret v =>
      obtain ⟨y, H', I', ry, q⟩ := z
      have n := rel_ni ry
      show PySem.W.CmpBack _ v s'
      cases v <;> first | exact absurd rfl n | exact ⟨y, H', I', ry, q⟩
    | next => exact z
    | brk => exact z
    | cont => exact z
end
/-! ### an except suite: isinstance(e, c), e an exception with fields -/
/-- isinstance(e, c), e the exception of the class at D with its dict at dd, that the suite holds -/
def rIsD (K : PySem.W.Frag) (D a dd : Addr) : List V → Hp → VK → Prop := fun xs H Q => ∃ (c : V) (cv : Value) (b : Bool) (fs : List (Str × V)), xs = [.ref a, c] ∧ H dd = some (.xd fs) ∧ ClsV c cv ∧ PySem.W.kitOne K (.ref D) cv = some b ∧ Q (.bl b) H
theorem call_isD {X : Cx} {a D dd : Addr} {B : String} {oe : Obj} {pn : List (Addr × Obj)} (T : EC X.K B D) (hn : PySem.W.specialIn X.K (.builtin "object.__class__") "__get__" = some (some (.builtin "getset_descriptor.__get__"))) (ht : PySem.W.takesIn X.K (.builtin "object.__class__") = some true)
    (hz : Zc (.ref D) (some dd) oe) (hf : ∃ vs, oe.data = .fields vs) : CallR (X.suite a ((a, oe) :: pn)) (.builtin "isinstance") (rIsD X.K D a dd) := by
  intro pins s σ H xs us Q I r h
  obtain ⟨c, cv, b, fs, rfl, hdd, hcv, e, q⟩ := h
  obtain ⟨u1, u2, rfl, r1, r2⟩ := vals2 r
  have ec := hcv.eq r2
  subst ec
  cases (show u1 = Value.ref a from r1)
  have sb : PySem.W.subIn X.K (.ref D) (.type "BaseException") = some true := by
    rw [T.subT]
    have z := T.hasBase
    rw [z]
  have mo : PySem.W.mroIn X.K D (.type "object") = some true := by
    have z := T.subT "object"
    rw [T.tail.obj] at z
    exact z
  obtain ⟨hget, _⟩ := I.pin (a, oe) (List.mem_append.mpr (.inl List.mem_cons_self))
  obtain ⟨vs, hv⟩ := hf
  have hx : ObjOk X.prog X.w H s.heap dd (.xd fs) := I.hok dd _ hdd
  obtain ⟨mA, hns, hr⟩ := hx
  obtain ⟨od, ho, hl⟩ := lookIn_ns hns
  have J : PySem.W.InstAt s.heap a oe D (some od) := ⟨hget, hz.1, by unfold PySem.W.notCls; rw [hv] <;> rfl, by rw [hz.2]; exact ho⟩
  exact PySem.W.kia_one (PySem.W.kitx_exc T.isCls T.ga T.gg sb T.ca hn ht mo) I.kIn J e (fun z => nomatch z) fun tk => ⟨.bl b, H, I.tok tk, rfl, q⟩
/-- e.f there -/
theorem EC.xf {K : PySem.W.Frag} {B : String} {C : Addr} (T : EC K B C) : XfC K C := by
  have sb : PySem.W.subIn K (.ref C) (.type "BaseException") = some true := by
    rw [T.subT]
    have z := T.hasBase
    rw [z]
  exact ⟨T.ga, T.gg, sb, T.hd⟩
end Lw

/-! ## Fx2 -/
set_option maxHeartbeats 4000000
/-! Promises of defs that raise nothing, called anywhere: an exception may be handled, guards may be set. -/
namespace Lw
open PySem PySem.Spec PyProof.Rows L2
end Lw
namespace Lw
open PySem PySem.Spec PyProof.Rows L2 L2H
theorem RoomG.h {k : Nat} {A : Around} (r : RoomG k A) : RoomH k A := roomH_of r.rm
theorem RoomHin1 {k : Nat} {A : Around} (r : RoomH (k + 1) A) : RoomH k A.in1 :=
  ⟨by have := r.dp; show A.depth + 3 * k + 5 < _; omega, by have := r.un; show A.units + 1 + 16 * k + 200 < _; omega⟩
theorem RoomHunits {k : Nat} {A : Around} (r : RoomH k A) : A.units < cLine := by have := r.un; omega
structure FnQ (P : Program) (w : World) (K : PySem.W.Frag) (mg : Str → Option Value) (base : Heap) (k : Nat) (f : Addr) (fd : FuncData) (ps : List Str) (sp : Sp) : Prop where
  len : ∀ vs H Q E, sp vs H Q E → vs.length = ps.length
  run : ∀ (A : Around) (outer : List Env) (s : Shared) (H : Hp) (args : Args) (us : List Value) (vs : List V) (Q : VK), RoomH k A → Env0 P w K mg base A outer s H → BindsTo s fd args (ps.zip us) → Vals vs us → sp vs H Q E0 →
    codeAny (model P w) A (.call (.ref f) args) (CR CX0 outer P w H s Q E0) s
section
variable {P : Program} {w : World} {K : PySem.W.Frag} {mg : Str → Option Value} {base : Heap} {k : Nat} {f : Addr} {fd : FuncData} {ps : List Str} {sp sp' : Sp}
theorem FnQ.g (F : FnQ P w K mg base k f fd ps sp) : FnG P w K mg base k f fd ps sp := ⟨F.len, fun A outer s H args us vs Q hr => F.run A outer s H args us vs Q hr.h⟩
theorem FnQ.imp (F : FnQ P w K mg base k f fd ps sp) (h : ∀ vs H Q E, sp' vs H Q E → sp vs H Q E) : FnQ P w K mg base k f fd ps sp' :=
  ⟨fun vs H Q E q => F.len vs H Q E (h _ _ _ _ q), fun A outer s H args us vs Q hr he hb hv hs => F.run A outer s H args us vs Q hr he hb hv (h _ _ _ _ hs)⟩
/-- the module's names may be pinned -/
theorem pin_glob {A : Around} {outer : List Env} {s : Shared} {H : Hp} (e0 : Env0 P w K mg base A outer s H) : ∃ p : Addr × Obj, PinOk outer H s p := by
  obtain ⟨o, es, ep, ho, hd, _⟩ := e0.mod.glob
  obtain ⟨h1, h2⟩ := e0.bs _ _ ho
  refine ⟨(mainGlobals, o), h1, h2, fun hm => ?_, fun v z => ?_⟩
  · obtain ⟨n, _⟩ := e0.funs.mem hm
    rw [n] at ho
    cases ho
  · have z' : o.data = .cell v := z
    rw [hd] at z'
    cases z'
/-- a def of the text, by its body -/
theorem okQ {x qual : Str} {st : Stmt} {N : List Str} (F : Fun K x qual st f fd) (S : FnScope N ps (defScope st)) (len : ∀ vs H Q E, sp vs H Q E → vs.length = ps.length)
    (hbody : ∀ (cdv : Value) (A : Around) (outer : List Env) (s : Shared) (H : Hp) (vs : List V) (Q : VK) (p : Addr × Obj), RoomH k (A.deeper (envOfC qual (defScope st) s.heap.objs.size f cdv)) → sp vs H Q E0 →
      ∃ t, PSs (cxH CX0 P w K mg base N qual (defScope st) f cdv A outer s H E0 p).nox (defBody st) t ∧ t { nx := fun _ H' => Q .non H', rt := Q } (start N vs) H) : FnQ P w K mg base (k + 1) f fd ps sp := by
  obtain ⟨oc, od, kV, doc, pm, an, cdv, ct, osl, rfl, lk, hcd⟩ := F.ex
  refine ⟨len, fun A outer s H args us vs Q hr e0 hb r hsp => ?_⟩
  have below : ∀ b o, base.get? b = some o → s.heap.get? b = some o := fun b o e => (e0.bs b o e).1
  have KX := e0.mod.kin.keeps below
  have lim := e0.mod.nolimit.keeps below
  have bound : ∀ y ∈ ps.zip us, (defScope st).names.lookup y.1 = some .local ∨ ((defScope st).names.lookup y.1 = some .cell ∧ ((cellsFrom (s.heap.objs.size + 1) (defScope st).names []).lookup y.1).isSome = true) := fun ⟨n, v⟩ hy =>
    (S.par n (List.of_mem_zip hy).1).elim .inl fun q => .inr ⟨q, PySem.W.cellsFrom_some _ _ _ (.inl q)⟩
  refine codeAny_call_function hr.depth (KX _ _ lk) rfl S.co S.gen rfl (PySem.W.codeRec_of KX hcd) (hb _ _ _ _ ?_)
  refine wpAny_newFunctionEnv_cells S.kind bound fun env he s1 x => ?_
  subst he
  refine ⟨lim.keeps x.toInCall.keep, codeAny_func ?_⟩
  obtain ⟨p, hp⟩ := pin_glob e0
  obtain ⟨t, ht, hq⟩ := hbody cdv A outer s H vs Q p (hr.deeper _) hsp
  have I := inv_startH (CX := CX0) (E := E0) S hp e0 (len _ _ _ _ hsp) r x
  refine wpAny_mono (ht.nox.run [] s1 (L2.start N vs) H _ I hq) (fun fl s' hs => ?_) fun e s' hs => hs
  cases fl with
  | ret u =>
    obtain ⟨v, σ', H', J, rv, q⟩ := hs
    exact ⟨v, H', J.os, J.bare, J.base, J.hok, rv, q⟩
  | next =>
    obtain ⟨σ', H', J, q⟩ := hs
    exact ⟨V.non, H', J.os, J.bare, J.base, J.hok, rfl, q⟩
  | brk => exact hs.elim fun _ h => h.elim fun _ h => h.2.elim
  | cont => exact hs.elim fun _ h => h.elim fun _ h => h.2.elim
end
structure CalQ (P : Program) (w : World) (K : PySem.W.Frag) (mg : Str → Option Value) (base : Heap) (k : Nat) (x : Str) (ps : List Str) (sp : Sp) : Prop where
  ex : ∃ (f : Addr) (fd : FuncData), FnQ P w K mg base k f fd ps sp ∧ mg x = some (.ref f) ∧ PySem.W.keepIn K (.ref f) = true ∧ (∀ us : List Value, us.length = ps.length → bindArgs fd ⟨us, []⟩ = pure (ps.zip us)) ∧
    (∀ u : Value, ps.length = 1 → bindArgs fd ⟨[], ps.zip [u]⟩ = pure (ps.zip [u]))
theorem CalQ.g {P : Program} {w : World} {K : PySem.W.Frag} {mg : Str → Option Value} {base : Heap} {k : Nat} {x : Str} {ps : List Str} {sp : Sp} (c : CalQ P w K mg base k x ps sp) : Cal P w K mg base k x ps sp := by
  obtain ⟨f, fd, F, r⟩ := c.ex
  exact ⟨f, fd, F.g, r⟩
structure MtQ (P : Program) (w : World) (K : PySem.W.Frag) (mg : Str → Option Value) (base : Heap) (k : Nat) (C : Addr) (m : Str) (ps : List Str) (sp : Sp) : Prop where
  ex : ∃ (f : Addr) (fd : FuncData), FnQ P w K mg base k f fd ps sp ∧ Meth K C m f ∧ (∀ us : List Value, us.length = ps.length → bindArgs fd ⟨us, []⟩ = pure (ps.zip us)) ∧
    (∀ (u v : Value) (a b : Str), ps = [a, b] → bindArgs fd ⟨[u], [(b, v)]⟩ = pure ([a, b].zip [u, v]))
theorem MtQ.g {P : Program} {w : World} {K : PySem.W.Frag} {mg : Str → Option Value} {base : Heap} {k : Nat} {C : Addr} {m : Str} {ps : List Str} {sp : Sp} (c : MtQ P w K mg base k C m ps sp) : Mt P w K mg base k C m ps sp := by
  obtain ⟨f, fd, F, r⟩ := c.ex
  exact ⟨f, fd, F.g, r⟩
section
variable {X : Cx} {k j : Nat} {C : Addr} {x m : Str} {ps : List Str} {sp : Sp} {p pos apos : Pos} {o e : Expr} {es : List Expr} {ta : TE} {t : TA}
theorem run_q {A : Around} {f : Addr} {fd : FuncData} {args : Args} {us : List Value} {vs : List V} {pins : List (Addr × Obj)} {σ : L2.St} {H : Hp} {s : Shared} {Q : VK} (F : FnQ X.prog X.w X.K X.mg X.base k f fd ps sp) (hr : RoomH k A) (hf : A.frames = X.A.frames)
    (b : bindArgs fd args = pure (ps.zip us)) (I : Inv X pins σ H s) (r : Vals vs us) (h : sp vs H Q E0) :
    codeAny (model X.prog X.w) A (.call (.ref f) args) (fun r s' => match r with | .ok (.ret u) => EP X pins σ Q u s' | .ok _ => False | .error e => X.xe e s') s := by
  have e0 : Env0 X.prog X.w X.K X.mg X.base A X.stack s H := by
    have e := I.env0
    exact ⟨by rw [hf]; exact e.frames, e.mod, e.bs, e.bsz, e.funs, e.frf, e.hok, e.bare⟩
  refine codeAny_mono (F.run A X.stack s H args us vs Q hr e0 (.of_eq b) r h) fun r s' hq => ?_
  cases r with
  | error e => exact False.elim hq
  | ok fl =>
    cases fl with
    | ret u => exact I.after hq
    | next => exact hq
    | brk => exact hq
    | cont => exact hq
theorem pe_cq (c : CalQ X.prog X.w X.K X.mg X.base k x ps sp) (hr : RoomH j X.A) (hk : k ≤ j) (hg : Gl X x) (ha : PA X (e :: es) t)
    (hdb : (x == ("__debug__" : Str)) = false := by decide) (he : starEach (e :: es) X.env = (false, eval e X.env) :: starEach es X.env := by rfl) (hpl : (backTo pos (starEach es X.env)).any (·.1) = false := by rfl) :
    PE X (.Call (.Name x p) (e :: es) [] pos) (tCall sp [] E0 t) := by
  obtain ⟨f, fd, F, hm, kp, b, _⟩ := c.ex
  refine ⟨fun pins s σ H Q I h => ?_⟩
  refine wpAny_Call_Name_kw (ld_glob I hg hm ?_ hdb)
  refine PySem.W.callWith_K (h₀ := X.base) I.ok.mod.kin kp (thn (ha.run pos pins s σ H _ I h) fun us s1 ⟨vs, H1, I1, r, q⟩ => ⟨I1.kIn, ?_⟩) he hpl
  have q : sp vs H1 Q E0 := by
    have q' : sp (vs ++ []) H1 Q E0 := q
    rwa [List.append_nil] at q'
  show wpAny _ _ (call (.ref f) us) _ _ _
  exact wpAny_call (codeAny_mono (run_q F (hr.mono hk) rfl (b us (by rw [← r.length]; exact F.len _ _ _ _ q)) I1 r q) fun r s' z => by
    rcases r with e | (v | _ | _ | _) <;> exact z)
/-- repr(a) by the own __repr__ -/
theorem call_reprQ (M : MtQ X.prog X.w X.K X.mg X.base k C "__repr__" ps sp) (hr : RoomH j X.A) (hk : k + 1 ≤ j) : CallR X (.builtin "repr") (rStrO C sp) := by
  obtain ⟨f, fd, F, hm, b, _⟩ := M.ex
  intro pins s σ H xs us Q I r hq
  obtain ⟨a, rfl, ha, h⟩ := hq
  obtain ⟨u, rfl, rx⟩ := vals1 r
  cases rx
  obtain ⟨ox, od, J⟩ := is_inst I ha
  obtain ⟨m, hF⟩ := I.fr
  have hr1 : RoomH k X.A.in1 := RoomHin1 (hr.mono hk)
  refine PySem.W.repr_K (RoomHunits hr1) hF I.ok.mod.kin J hm.at_ hm.fn (wpAny_call (codeAny_mono (run_q (vs := [V.ref a]) (us := [Value.ref a]) F hr1 rfl (b _ (F.len _ _ _ _ h)) I (.cons rfl .nil) h) fun r s' z => ?_))
  cases r with
  | error e => exact z
  | ok fl =>
    cases fl with
    | ret v =>
      obtain ⟨y, H', I', ry, ⟨zz, rfl⟩, q⟩ := z
      obtain ⟨t, rfl⟩ := ry
      exact ⟨V.str zz, H', I', ⟨t, rfl⟩, q⟩
    | next => exact z
    | brk => exact z
    | cont => exact z
open PySem.Builtin PySem.Builtin.Str in
/-- str(a) by the own __str__ -/
theorem call_strQ (M : MtQ X.prog X.w X.K X.mg X.base k C "__str__" ps sp) (hr : RoomH j X.A) (hk : k + 4 ≤ j) : CallR X (.type "str") (rStrO C sp) := by
  obtain ⟨f, fd, F, hm, b, _⟩ := M.ex
  intro pins s σ H xs us Q I r hq
  obtain ⟨a, rfl, ha, h⟩ := hq
  obtain ⟨u, rfl, rx⟩ := vals1 r
  cases rx
  obtain ⟨ox, od, J⟩ := is_inst I ha
  have hr4 : RoomH (k + 4) X.A := hr.mono hk
  have hr2 : RoomH (k + 2) X.A.in1.in1 := RoomHin1 (RoomHin1 hr4)
  have hr3 : RoomH k X.A.in1.in1 := hr2.mono (by omega)
  have XK := I.kIn
  refine PySem.callType_codes (T := "str") (Bi := Builtin.«object.__init__») (Q₁ := fun r s₁ => ∃ y u, r = .str y u ∧ EP X pins σ Q r s₁) PySem.F.called_str (PySem.F.typeCall_str_1 _) PySem.F.entry_object_init ?_ ?_
  · refine codeAny_of_tree ?_
    show wpAny _ X.A.in1.in1 (do checkBuiltinCall "str.__new__" ⟨[.type "str", .ref a], []⟩; again (.builtin "str.__new__" ⟨[.type "str", .ref a], []⟩)) _ _ s
    refine wpAny_bind (wpAny_of_eq (PySem.F.newCall_str_1 _) (wpAny_pure ⟨plainId_quiet (by decide +kernel) _, codeAny_builtin PySem.F.entry_str_new ?_⟩))
    rw [Around.under_plainId (by decide +kernel) _]
    rw [str_new_tree]
    refine wpAny_bind (wpAny_pure ?_)
    refine wpAny_bind (wpAny_of_eq isSubtype_str_str ?_)
    have key : wpAny (model X.prog X.w) X.A.in1.in1 (PySem.Builtin.Str.strOf (.ref a)) (fun r s₁ => ∃ y u, r = .str y u ∧ EP X pins σ Q r s₁) X.xe s := by
      unfold PySem.Builtin.Str.strOf
      rw [show isExactStr (.ref a) = false from rfl]
      refine wpAny_bind (m := cRoomFor _ _) (wpAny_cRoomFor (RoomHunits hr3) ?_)
      refine wpAny_bind (m := callSpecial? (.ref a) (Str.ofString "__str__")) (PySem.W.special_fn XK J hm.at_ (beq_iff_eq.mp hm.fn) ?_)
      refine wpAny_call (codeAny_mono (run_q (vs := [V.ref a]) (us := [Value.ref a]) F hr3 rfl (b _ (F.len _ _ _ _ h)) I (.cons rfl .nil) h) fun r s' z => ?_)
      cases r with
      | error e => exact z
      | ok fl =>
        cases fl with
        | ret v =>
          obtain ⟨y, H', I', ry, ⟨zz, rfl⟩, q⟩ := z
          obtain ⟨t, rfl⟩ := ry
          exact wpAny_pure ⟨zz, t, rfl, V.str zz, H', I', ⟨t, rfl⟩, q⟩
        | next => exact z
        | brk => exact z
        | cont => exact z
    exact wpAny_bind (wpAny_mono key (fun r s₁ hr => wpAny_pure hr) fun _ _ y => y)
  · rintro obj s₁ ⟨y, u, rfl, hq⟩
    exact ⟨typeIs_str _ _ _, PySem.F.args_object_init_2 _ _, object_init_meets PySem.F.called_str.init.lookup PySem.F.called_str.made (by decide) X.prog X.w X.A.in1 _ s₁ ⟨typeIs_str _ _ _, rfl, hq⟩⟩
end
end Lw

/-! ## Fx3 -/
set_option maxHeartbeats 4000000
/-! x(lambda: e), where no guard is set; what the lambda raises is known where it is called. -/
namespace Lw
open PySem PySem.Spec PyProof.Rows L2 LamX
/-- the context of a lambda's body; what it raises bears no context of its own -/
abbrev lamN (X : Cx) (A : Around) (outer : List Env) (s : Shared) (H : Hp) (E : XK) (scope : Scope) (f c' : Addr) : Cx := (lamCx X A outer s H E scope f c').wish fun e s' =>
  wpAny (model X.prog X.w) (A.deeper (lamEnv X scope s.heap.objs.size f c')) (leaving (lamEnv X scope s.heap.objs.size f c') e) (fun _ s'' => L2N.CX X.prog X.w outer H s E e s'') (fun e' s'' => L2N.CX X.prog X.w outer H s E e' s'') s'
section
variable {X : Cx} {pins : List (Addr × Obj)} {σ : L2.St} {H : Hp} {s : Shared}
/-- a(), in the def that got the lambda at its entry -/
theorem pe_lamG {CXg : CXT} {Eg : XK} {Ng : List Str} {qg : Str} {sg : Scope} {g f c' : Addr} {cdg pm ctv : Value} {params : Arguments} {body : Expr} {scope : Scope} {k i : Nat} {a : Str} {pn : List (Addr × Obj)} {xe : Value → Shared → Prop} {W : WX} {tb : XK → TE} {p1 p2 : Pos}
    (I : Inv X pins σ H s) (L : LamS X.env.scope scope) (hf : s.heap.get? f = some (PySem.W.kla_obj "<lambda>" (X.env.qual ++ "<lambda>") params body scope (cloFrom X.env.cells scope.names []) pm c' ctv)) (hfn : H f = none) (hfr : f ∉ frs X.stack)
    (hbind : bindArgs (PySem.W.kla_fn "<lambda>" (X.env.qual ++ "<lambda>") params body scope (cloFrom X.env.cells scope.names []) pm (.ref c') ctv) ⟨[], []⟩ = pure [])
    (tk : L2N.Takes ((cxOf CXg X.prog X.w X.K X.mg X.base Ng qg sg g cdg X.A X.stack s H Eg).tr pn xe) W) (hr : RoomG (k + 1) (X.A.deeper (envOfC qg sg s.heap.objs.size g cdg)))
    (hbody : ∀ (A : Around) (outer : List Env) (s : Shared) (H : Hp) (E : XK), RoomG k (A.deeper (lamEnv X scope s.heap.objs.size f c')) → PE (lamN X A outer s H E scope f c') body (tb E))
    (hN : Ng[i]? = some a) (hv : Vis sg a) (hd : (a == ("__debug__" : Str)) = false := by decide) (hcd : (a == ("__classdict__" : Str)) = false := by decide) :
    PE ((cxOf CXg X.prog X.w X.K X.mg X.base Ng qg sg g cdg X.A X.stack s H Eg).tr pn xe) (.Call (.Name a p1) [] [] p2)
      (fun σZ HZ Q => σZ[i]? = some (some (.ref f)) ∧ HZ c' = some (CodeO c' (X.env.qual ++ "<lambda>")) ∧ ∃ E : XK, (∀ cls d H', E cls d H' → W cls d σZ H') ∧ tb E σ HZ Q) := by
  refine ⟨fun pZ sZ σZ HZ Q IZ ⟨hs, hc, E, hW, ht⟩ => wpAny_Call_Name_kw (thn ((pe_var (pos := p1) (i := i) hN hv hd hcd).run pZ sZ σZ HZ (fun v H1 => v = .ref f ∧ H1 = HZ) IZ ⟨.ref f, hs, rfl, rfl⟩) ?_)⟩
  rintro u s1 ⟨v, H1, I1, r1, rfl, rfl⟩
  cases r1
  have there := I1.base.keep f _ hf hfn hfr (fun z => nomatch (show f ∈ ([] : List Addr) from z))
  obtain ⟨⟨oc, vs, t, code⟩, _, _⟩ := I1.hok c' _ hc
  refine PySem.W.callWith_F0 ⟨_, _, _, _, there⟩ (wpAny_call (codeAny_mono (R := CR (L2N.CX X.prog X.w) (envOfC qg sg s.heap.objs.size g cdg :: X.stack) X.prog X.w H1 s1 Q E) ?_ fun r s' hq => ?_))
  · refine PySem.W.kla_callFunE hr.rm.depth there rfl L.co L.gen rfl ⟨c', oc, vs, t, rfl, code⟩ ?_
    rw [show ([] ++ [] : List Value) = [] from rfl, hbind]
    refine wpAny_pure (wpAny_newFunctionEnv (fun y hy => (L.own y hy).2) (fun _ hy => nomatch hy) (fun h₁ hns hsb => ⟨I1.nolimit.fresh _ hsb, ?_⟩) L.kind)
    have J := (lam_start2 (E := E) (f := f) (c' := c') (tk := s1.toks + 0) I L I1.env0 hr.rm.hd I1.base hns fun b o e => hsb.extBut b o (Nat.ne_of_lt (Heap.lt_size e)) (Heap.get?_push_of_some _ e)).wish fun e s' =>
      wpAny (model X.prog X.w) ((X.A.deeper (envOfC qg sg s.heap.objs.size g cdg)).deeper (lamEnv X scope s1.heap.objs.size f c')) (leaving (lamEnv X scope s1.heap.objs.size f c') e) (fun _ s'' => L2N.CX X.prog X.w (envOfC qg sg s.heap.objs.size g cdg :: X.stack) H1 s1 E e s'') (fun e' s'' => L2N.CX X.prog X.w (envOfC qg sg s.heap.objs.size g cdg :: X.stack) H1 s1 E e' s'') s'
    refine PySem.W.kla_codeExpr (wpAny_mono ((hbody _ _ s1 H1 _ (hr.deeper _)).run [] _ _ H1 Q J ht) ?_ fun e s' hq => hq)
    rintro v s' ⟨w', H', J', rv, q⟩
    exact ⟨w', H', J'.os, J'.bare, J'.base, J'.hok, rv, q⟩
  · cases r with
    | error e => exact tk e s' (L2N.XE.of_call I1 hW hq)
    | ok fl => cases fl <;> first | exact I1.after hq | exact False.elim hq
end
/-- the def that calls what it got: TT is what it makes of the lambda's reading -/
def GivesG (X : Cx) (k : Nat) (Ng : List Str) (x : Str) (sg : Scope) (g : Addr) (cdg : Value) (bg : List Stmt) (a : Str) (q : Str) (TT : (XK → Hp → VK → Prop) → Hp → VK → Prop) : Prop :=
  ∀ (f c' : Addr) (s : Shared) (H : Hp) (Q : VK) (tl : XK → Hp → VK → Prop), RoomG (k + 1) (X.A.deeper (envOfC x sg s.heap.objs.size g cdg)) →
    (∀ (W : WX) (pn : List (Addr × Obj)) (xe : Value → Shared → Prop) (p1 p2 : Pos), L2N.Takes ((cxOf CX0 X.prog X.w X.K X.mg X.base Ng x sg g cdg X.A X.stack s H E0).tr pn xe) W →
      PE ((cxOf CX0 X.prog X.w X.K X.mg X.base Ng x sg g cdg X.A X.stack s H E0).tr pn xe) (.Call (.Name a p1) [] [] p2) (fun σZ HZ Q => σZ[0]? = some (some (.ref f)) ∧ HZ c' = some (CodeO c' q) ∧ ∃ E : XK, (∀ cls d H', E cls d H' → W cls d σZ H') ∧ tl E HZ Q)) →
    H c' = some (CodeO c' q) → TT tl H Q →
    ∃ t, PSs (cxOf CX0 X.prog X.w X.K X.mg X.base Ng x sg g cdg X.A X.stack s H E0).nox bg t ∧ t { nx := fun _ H' => Q .non H', rt := Q } (L2.start Ng [.ref f]) H
section
variable {X : Cx}
/-- x(lambda: body) -/
theorem pe_lamcallG {T : List (Addr × Str)} {TT : (XK → Hp → VK → Prop) → Hp → VK → Prop} {x a : Str} {g c P : Addr} {k : Nat} {pg : Arguments} {bg : List Stmt} {sg : Scope} {dV kV doc pm cdv ct oc : Value} {an od : Option Addr} {osl : Array (Option Value)} {Ng : List Str}
    {params : Arguments} {body : Expr} {scope : Scope} {t : XK → TE} {p lpos pos : Pos} (hg : Gl X x) (hm : X.mg x = some (.ref g)) (hk : PySem.W.keepIn X.K (.ref g) = true)
    (lk : X.K.lookup g = some ⟨oc, od, .func (PySem.W.fnOf x x pg bg sg dV kV doc pm an cdv ct), osl⟩) (hcg : PySem.W.codeIn X.K cdv x = true) (hb : L2.Binds X.K (PySem.W.fnOf x x pg bg sg dV kV doc pm an cdv ct) [a] []) (Sg : FnScope Ng [a] sg) (hNg : Ng[0]? = some a) (hva : Vis sg a)
    (hG : GivesG X k Ng x sg g cdv bg a (X.env.qual ++ "<lambda>") TT)
    (TB : TabB X.base X.mg c P) (hcode : X.env.code = .ref c) (hmT : (P, X.env.qual ++ "<lambda>") ∈ T) (hu : ∀ p ∈ T, p.1 = P → p.2 = X.env.qual ++ "<lambda>") (hr : RoomG (k + 2) X.A) (L : LamS X.env.scope scope) (hdef : defaultsOf params X.env = ([], []))
    (hbind : ∀ (q : Str) (cl : List (Str × Addr)) (pm cv ctv : Value), bindArgs (PySem.W.kla_fn "<lambda>" q params body scope cl pm cv ctv) ⟨[], []⟩ = pure [])
    (hbody : ∀ (A : Around) (outer : List Env) (s : Shared) (H : Hp) (E : XK) (f c' : Addr), RoomG k (A.deeper (lamEnv X scope s.heap.objs.size f c')) → PE (lamN X A outer s H E scope f c') body (t E))
    (hdb : (x == ("__debug__" : Str)) = false := by decide) (hd : (a == ("__debug__" : Str)) = false := by decide) (hcd : (a == ("__classdict__" : Str)) = false := by decide) :
    PE X (.Call (.Name x p) [.Lambda params body scope lpos] [] pos) (tLam T TT t) := by
  refine ⟨fun pins s σ H Q I ⟨hT, h⟩ => wpAny_Call_Name_kw (ld_glob I hg hm ?_ hdb)⟩
  refine PySem.W.callWith_K (h₀ := X.base) I.ok.mod.kin hk ?_ (by rfl) (by rfl)
  show wpAny _ _ (spliced ((false, eval (.Lambda params body scope lpos) X.env) :: backTo pos (starEach [] X.env))) _ _ s
  refine Calls.spliced_cons (lam_make2 I TB hcode hmT hu hT hdef (L.has I.ok) fun f c' pm' ctv H1 s' I1 eN T1 hf hfn hfr hco => Calls.spliced_nil ⟨I1.kIn, wpAny_call (codeAny_mono (R := CR CX0 X.stack X.prog X.w H1 s' Q E0) ?_ fun r s2 hq => ?_)⟩)
  · refine run_ofS (CX := CX0) (E := E0) (N := Ng) (ps := [a]) (us := [.ref f]) (vs := [.ref f]) lk hcg Sg hr.rm I1.env0 (hb s' [.ref f] I1.kIn rfl) (.cons rfl .nil) rfl fun hr' => ?_
    have hrG : RoomG (k + 1) (X.A.deeper (envOfC x sg s'.heap.objs.size g cdv)) := ⟨hr', hr.gd⟩
    obtain ⟨t', ht', hq'⟩ := hG f c' s' H1 Q (fun E H' Q' => t E σ H' Q') hrG (fun W pn xe p1 p2 tk => pe_lamG (i := 0) (tb := t) I1 L hf hfn hfr (hbind _ _ _ _ _) tk hrG (fun A outer s H E hr2 => hbody A outer s H E f c' hr2) hNg hva hd hcd) hco (h H1 eN T1)
    exact ⟨t', ht'.nox, hq'⟩
  · cases r with
    | error e => exact (show False from hq).elim
    | ok fl => cases fl <;> first | exact I1.after hq | exact False.elim hq
end
end Lw

/-! ## Fx4 -/
set_option maxHeartbeats 4000000
/-! list.count of flat items; an own operator beside a list, a tuple, a dict -/
namespace Lw
open PySem PySem.Spec PyProof.Rows L2
section
variable {X : Cx}
theorem count_eqU {y : V} : ∀ {ys : List V} {us : List Value}, Vals ys us → ys.all flatV = true → us.countP (eqU y) = ys.countP fun z => eqV z y
  | _, _, .nil, _ => rfl
  | z :: ys, u :: us, .cons r t, f => by
    rw [List.all_cons, Bool.and_eq_true] at f
    rw [List.countP_cons, List.countP_cons, count_eqU t f.2, eqU_of r f.1]
/-- xs.count(y), all flat -/
def rCntV (K : PySem.W.Frag) : V → List V → Hp → VK → Prop := fun x xs H Q => ∃ (a : Addr) (ys : List V) (y : V), x = .ref a ∧ xs = [y] ∧ SqL K H a ys ∧ flatV y = true ∧ ys.all flatV = true ∧ Q (.int ((ys.countP fun z => eqV z y : Nat) : Int)) H
theorem mt_countV : MtR X "list.count" (rCntV X.K) := by
  intro pins s σ H x xs v us Q I rx rxs h
  obtain ⟨a, ys, y, rfl, rfl, hs, fy, fys, q⟩ := h
  cases rx
  obtain ⟨uy, rfl, ry⟩ := rxs.one
  obtain ⟨its, rv, ⟨⟨cls, dd, data, sl⟩, n, ho, hc, hdn, hd⟩, hlen⟩ := I.list hs
  simp only at hc hd
  subst hc hd
  refine call_meets PySem.F.slot_list_count ⟨_, ho, rfl⟩ PySem.F.entry_list_count (PySem.F.args_list_count_2 _ _)
    (SeqAt.list_countAt a its.toArray n dd sl uy (eqU y)) ⟨ho, fun u hu => mem_eqAt ry fy rv fys u (by simpa using hu), ?_⟩
  have ec : its.toArray.toList.countP (eqU y) = ys.countP fun z => eqV z y := count_eqU rv fys
  refine ⟨.int ((ys.countP fun z => eqV z y : Nat) : Int), H, I.tok _, ⟨s.toks, ?_⟩, q⟩
  rw [← ec]
end
end Lw

/-! ## Fx5 -/
set_option maxHeartbeats 4000000
/-! raise X(e), X an own error of one field, over any built-in base -/
namespace Lw
open PySem PySem.Spec PyProof.Rows L2
/-- an __init__ that stores its one parameter -/
def spR (K : PySem.W.Frag) (n : Str) (C : Addr) : Sp := fun vs H Q _ => ∃ (a : Addr) (z : V) (B : String), vs = [.ref a, z] ∧ H a = some (exo a C none) ∧ EC K B C ∧ PySem.W.findIn K (.ref C) n = some none ∧
  ∀ dx, H dx = none → dx ≠ a → Q .non (upd (upd H dx (exd dx [(n, z)])) a (exo a C (some dx)))
section
variable {P : Program} {w : World} {K : PySem.W.Frag} {mg : Str → Option Value} {base : Heap} {f C : Addr} {fd : FuncData} {qual : Str} {st : Stmt}
theorem ok_initR {n : Str} {p1 p2 p3 p4 : Pos} (F : Fun K "__init__" qual st f fd) (S : FnScope ["self", n] ["self", n] (defScope st)) (hb : defBody st = [.Assign [.Attribute (.Name "self" p1) n p2] (.Name n p3) p4])
    (v0 : (defScope st).names.lookup ("self" : Str) = some .local) (v1 : (defScope st).names.lookup n = some .local) (d1 : (n == ("__debug__" : Str)) = false) (d2 : (n == ("__classdict__" : Str)) = false) : FnOk P w K mg base CX0 1 f fd ["self", n] (spR K n C) := by
  refine F.ok S (fun vs H Q E h => ?_) (fun cdv A outer s H vs Q E hr h => ?_)
  · obtain ⟨a, z, B, rfl, _⟩ := h
    rfl
  · obtain ⟨a, z, B, rfl, ha, T, no, k⟩ := h
    rw [hb]
    refine ⟨_, pss_one (ps_ostT (pv 0 rfl (.inl v0)) (pv 1 rfl (.inl v1) d1 d2)), ?_⟩
    exact ⟨_, rfl, _, rfl, a, C, B, rfl, T, no, .inl ⟨ha, fun dx hd hne => k dx hd hne⟩⟩
end
/-- an error class of the program whose __init__ stores its parameter n -/
structure Ex1 (P : Program) (w : World) (K : PySem.W.Frag) (mg : Str → Option Value) (base : Heap) (x : Str) (B : String) (C : Addr) (n : Str) : Prop where
  ec : EC K B C
  ty : PySem.W.typeIn K (.ref C) = some (.type "type")
  mgC : mg x = some (.ref C)
  no : PySem.W.findIn K (.ref C) n = some none
  ini : ∃ (fI : Addr) (fd : FuncData), PySem.W.findIn K (.ref C) "__init__" = some (some (.ref fI)) ∧ PySem.W.typeIn K (.ref fI) = some (.type "function") ∧ FnOk P w K mg base CX0 1 fI fd ["self", n] (spR K n C) ∧
    (∀ us : List Value, us.length = 2 → bindArgs fd ⟨us, []⟩ = pure ((["self", n] : List Str).zip us))
theorem upd_del {H : Hp} {a d : Addr} {fs : List (Str × V)} {o1 o2 o3 : HO} (ha : H a = none) (hd : d ≠ a) : upd (del (upd (upd (upd H a o1) d o2) a o3) a) d (.xd fs) = upd H d (.xd fs) := by
  funext b
  by_cases e : b = d
  · rw [e, upd_same, upd_same]
  · rw [upd_ne e, upd_ne e]
    by_cases e2 : b = a
    · rw [e2, del_same, ha]
    · rw [del_ne e2, upd_ne e2, upd_ne e, upd_ne e2]
/-- what is asked of an error that is raised, its field the one argument -/
def tErrX (C : Addr) (n : Str) (t : TA) : L2.St → Hp → XK → Prop := fun σ H Q => t σ H fun vs H1 => ∃ z, vs = [z] ∧ ∀ d, H1 d = none → Q (.ref C) (some d) (upd H1 d (.xd [(n, z)]))
section
variable {X : Cx} {k : Nat} {x n : Str} {B : String} {C : Addr} {p pos pos' : Pos} {e : Expr} {es : List Expr} {t : TA} {W : WX}
theorem pmk_err (M : Ex1 X.prog X.w X.K X.mg X.base x B C n) (hr : RoomG k X.A) (hk : 2 ≤ k) (hg : Gl X x) (ha : PA X (e :: es) t)
    (hdb : (x == ("__debug__" : Str)) = false := by decide) (hs : starEach (e :: es) X.env = (false, eval e X.env) :: starEach es X.env := by rfl) (hpl : (backTo pos (starEach es X.env)).any (·.1) = false := by rfl) :
    L2N.PMk X (.Call (.Name x p) (e :: es) [] pos) (tErrX C n t) := by
  obtain ⟨fI, fd, iC, tI, F, b⟩ := M.ini
  intro pins s σ H Q I h
  refine wpAny_Call_Name_kw (ld_glob I hg M.mgC ?_ hdb)
  refine PySem.W.callWith_K (h₀ := X.base) I.ok.mod.kin M.ec.kC (thn (ha.run pos pins s σ H _ I h) fun us s1 ⟨vs, H1, I1, r, z, ev, q⟩ => ⟨I1.kIn, ?_⟩) hs hpl
  subst ev
  show wpAny _ _ (call (.ref C) us) _ _ _
  obtain ⟨newId, initId, nm, qn, N, bs, bm, sn, sub, ab, col, dd, k0, k1, k2, k3, k5, FB, hC, hbm⟩ := M.ec.cls
  obtain ⟨hp, gs, dr, tkk, os⟩ := s1
  have hsz : hp.objs.size ≤ hp.objs.size + 1 := Nat.le_succ _
  have hn1 : H1 (hp.objs.size + 1) = none := I1.hok.fresh hsz
  have kk : ∀ b o, hp.get? b = some o → ((hp.push (PySem.W.kdv_tup us)).push (PySem.HandSPX.excO C hp.objs.size)).get? b = some o := fun b o e => Heap.get?_push_of_some _ (Heap.get?_push_of_some _ e)
  have hget : ((hp.push (PySem.W.kdv_tup us)).push (PySem.HandSPX.excO C hp.objs.size)).get? (hp.objs.size + 1) = some (PySem.HandSPX.excO C hp.objs.size) := by heap_get
  have I2 : Inv X pins σ (upd H1 (hp.objs.size + 1) (exo (hp.objs.size + 1) C none)) ⟨(hp.push (PySem.W.kdv_tup us)).push (PySem.HandSPX.excO C hp.objs.size), gs, dr, tkk, os⟩ :=
    I1.laid (t' := tkk) (a := hp.objs.size + 1) (o := exo (hp.objs.size + 1) C none) (h' := (hp.push (PySem.W.kdv_tup us)).push (PySem.HandSPX.excO C hp.objs.size)) kk hsz (exo_ok hget)
  have r2 : Vals [V.ref (hp.objs.size + 1), z] (Value.ref (hp.objs.size + 1) :: us) := .cons rfl r
  have l1 : us.length = 1 := by
    have := r.length
    simpa using this.symm
  have hus : us.length ≤ sizeLine := by
    rw [l1]
    decide
  have hq : spR X.K n C [V.ref (hp.objs.size + 1), z] (upd H1 (hp.objs.size + 1) (exo (hp.objs.size + 1) C none))
      (fun v H3 => v = .non ∧ ∃ d, H3 (hp.objs.size + 1) = some (exo (hp.objs.size + 1) C (some d)) ∧ H3 d = some (exd d [(n, z)]) ∧ H1 d = none ∧ Q (.ref C) (some d) (upd (del H3 (hp.objs.size + 1)) d (.xd [(n, z)]))) E0 := by
    refine ⟨_, z, B, rfl, upd_same, M.ec, M.no, fun d hd hne => ⟨rfl, d, upd_same, ?_, ?_, ?_⟩⟩
    · rw [upd_ne hne, upd_same]
    · rw [upd_ne hne] at hd
      exact hd
    · rw [upd_del hn1 hne]
      refine q d ?_
      rw [upd_ne hne] at hd
      exact hd
  refine wpAny_call (PySem.LwX.call_ownK FB (fun Y => PySem.LwX.refsT_contains M.ec.tail Y bm hbm) (I1.kIn _ _ hC) (PySem.W.looks_findIn I1.kIn iC) (fun self => PySem.W.bind_fn I1.kIn self tI) hus
    (codeAny_mono (F.run _ X.stack _ _ ⟨Value.ref (hp.objs.size + 1) :: us, []⟩ (Value.ref (hp.objs.size + 1) :: us) _ _ E0 ((hr.rm.mono hk).make C us []) (I2.env0.make C us []) (.of_eq (b _ (by rw [List.length_cons, l1]))) r2 hq) fun r s' hq' => ?_))
  cases r with
  | error er => exact False.elim hq'
  | ok fl =>
    cases fl with
    | ret u =>
      obtain ⟨v, H2, os2, bare2, un2, hok2, rv, ev, d, ea, ed, hd1, q2⟩ := hq'
      subst ev
      obtain ⟨h2, g2, d2, t2, os'⟩ := s'
      have sb : PySem.W.subIn X.K (.ref C) (.type "BaseException") = some true := M.ec.xf.exC
      obtain ⟨t0, G, J, kG, ge, hoe, na⟩ := mk_end0 (d2 := d2) (t2 := t2) I1 hsz kk un2 hok2 os2 bare2 ea ed hd1
      exact ⟨rv, _, _, _, ⟨G, g2, d2, t2, os'⟩, _, .ref C, some d, rfl, J, kG, ge, hoe, ⟨rfl, rfl, fun vs z => by cases z; rfl⟩, rfl, rfl, na, rfl, bare2, raises_own sb M.ty, q2⟩
    | next => exact False.elim hq'
    | brk => exact False.elim hq'
    | cont => exact False.elim hq'
/-- raise X(e) -/
theorem ps_err (M : Ex1 X.prog X.w X.K X.mg X.base x B C n) (hr : RoomG k X.A) (hk : 2 ≤ k) (hc : X.calm = true) (T : L2N.Takes X W) (hg : Gl X x) (ha : PA X (e :: es) t)
    (hdb : (x == ("__debug__" : Str)) = false := by decide) (hs : starEach (e :: es) X.env = (false, eval e X.env) :: starEach es X.env := by rfl) (hpl : (backTo pos (starEach es X.env)).any (·.1) = false := by rfl) :
    PS X (.Raise (some (.Call (.Name x p) (e :: es) [] pos)) none pos') (fun _ σ H => tErrX C n t σ H fun cls d H' => W cls d σ H') := L2N.ps_raise hc T (pmk_err M hr hk hg ha hdb hs hpl)
end
end Lw

/-! ## Fx6 -/
set_option maxHeartbeats 4000000
/-! a op b by a's own method, which may raise; b of any type that a's method shall refuse -/
namespace Lw
open PySem PySem.W PySem.Spec PySem.Calls PyProof.Rows
section
variable {prog : Program} {w : World} {A : Around} {E : Value → Shared → Prop} {s : Shared} {K : Frag} {x C f L : Addr} {ox : Obj} {od : Option Obj} {h₀ : Heap} {m : Str → Option Value} {T : String}
theorem bin_any {op : Operator} {b : Value} {fo ro rc : Option Value} {Q : Value → Shared → Prop} (F : Fr h₀ L s.heap m) (X₀ : K.In h₀) (I : InstAt s.heap x ox C od) (hb : Looks (model prog w) s.heap (typeOf b) (.type T)) (hc : selfFirst K C = true)
    (hs : findIn K (.ref C) (PySem.dunder op.info.2) = some (some (.ref f))) (hf : isFn K (.ref f) = true) (hr : findIn K (.ref C) (dunderR op.info.2) = some rc) (hp : rc = none ∨ ∃ g : Addr, rc = some (.ref g))
    (h1 : findIn K (.type T) (PySem.dunder op.info.2) = some fo) (h2 : findIn K (.type T) (dunderR op.info.2) = some ro) (hsub : subIn K (.type T) (.ref C) = some false)
    (h : wpAny (model prog w) A (call (.ref f) [.ref x, b]) (PySem.W.CmpBack Q) E s) : wpAny (model prog w) A (binaryOp op (.ref x) b) Q E s := by
  have X := X₀.keeps F.keep
  obtain ⟨cd, rest, hcd, hm⟩ := ksp_first hc
  obtain ⟨sym, nm, hi⟩ : ∃ sym nm, op.info = (sym, nm) := ⟨_, _, rfl⟩
  rw [hi] at hs hr h1 h2
  have told := ksp_try X I hs hf h
  have a1 : Looks (model prog w) s.heap (typeOf (.ref x)) (.ref C) := I.type
  have a3 : Looks (model prog w) s.heap (fillsNumberSlot (.ref C) nm) true := fills_K X hcd hm hs
  have a4 := ksp_fillsT (M := model prog w) X h1 h2
  have a5 : Looks (model prog w) s.heap (isSubtype (.type T) (.ref C)) false := looks_subIn X hsub
  have a6 : Looks (model prog w) s.heap (numberSlotInPython (.ref C) nm) true := ksp_inPy X hs hr hp
  have a7 : Looks (model prog w) s.heap (numberSlotInPython (.type T) nm) false := Looks.of_pure rfl
  have a8 : Looks (model prog w) s.heap (typeLookup (.type T) (dunderR nm)) ro := looks_findIn X h2
  obtain ⟨hh, g, d, tt, os⟩ := s
  generalize ((fo.isSome && !isSeqSlot fo) || (ro.isSome && !isSeqSlot ro)) = right at a4
  have ne : (Value.ref C == Value.type T) = false := Bool.eq_false_iff.mpr fun q => by cases beq_iff_eq.mp q
  simp only [binaryOp, hi]
  refine wpAny_holding (wpAny_bind ?_)
  unfold binaryOp1
  refine wpAny_bind (a1.at (wpAny_bind (hb.at (wpAny_bind (a3.at ?_)))))
  simp only [ne, Bool.false_eq_true, if_false]
  cases right <;>
  · ksp_lk
    refine wpAny_mono told (fun r s' z => ?_) fun _ _ e => e
    obtain ⟨v, rfl, q⟩ := z
    ksp_lk
    exact q
end
end Lw
namespace Lw
open PySem PySem.Spec PyProof.Rows L2
/-- what the built-in type tn says to the operator: nothing of C's -/
structure FeT (K : PySem.W.Frag) (C : Addr) (op : Operator) (tn : String) : Prop where
  l : ∃ fo, PySem.W.findIn K (.type tn) (PySem.dunder op.info.2) = some fo
  r : ∃ ro, PySem.W.findIn K (.type tn) (dunderR op.info.2) = some ro
  sub : PySem.W.subIn K (.type tn) (.ref C) = some false
/-- a op y by a's own method, which may raise what E tells -/
def rOpX (K : PySem.W.Frag) (C : Addr) (op : Operator) (sp : Sp) (E : XK) : R2 := fun x y H Q => ∃ a t, x = .ref a ∧ Is C H a ∧ TyX K H y t ∧ (t = .ref C ∨ ∃ tn, t = .type tn ∧ FeT K C op tn) ∧ sp [x, y] H Q E
section
variable {X : Cx} {W : WX} {E : XK} {k j : Nat} {C : Addr} {ps : List Str} {sp : Sp}
theorem run_xE {A : Around} {f : Addr} {fd : FuncData} {args : Args} {us : List Value} {vs : List V} {pins : List (Addr × Obj)} {σ : L2.St} {H : Hp} {s : Shared} {Q : VK} (F : FnX X.prog X.w X.K X.mg X.base k f fd ps sp) (hr : RoomG k A) (hf : A.frames = X.A.frames) (T : L2N.Takes X W) (hE : ∀ cls d σ H, E cls d H → W cls d σ H)
    (b : bindArgs fd args = pure (ps.zip us)) (I : Inv X pins σ H s) (r : Vals vs us) (h : sp vs H Q E) :
    codeAny (model X.prog X.w) A (.call (.ref f) args) (fun r s' => match r with | .ok (.ret u) => EP X pins σ Q u s' | .ok _ => False | .error e => X.xe e s') s := by
  have e0 : Env0 X.prog X.w X.K X.mg X.base A X.stack s H := by
    have e := I.env0
    exact ⟨by rw [hf]; exact e.frames, e.mod, e.bs, e.bsz, e.funs, e.frf, e.hok, e.bare⟩
  refine codeAny_mono (F.run A X.stack s H args us vs Q _ hr e0 (.of_eq b) r h) fun r s' hq => ?_
  cases r with
  | error e => exact T e s' (L2N.XE.of_call I (fun _ _ _ h => hE _ _ _ _ h) hq)
  | ok fl =>
    cases fl with
    | ret u => exact I.after hq
    | next => exact hq
    | brk => exact hq
    | cont => exact hq
theorem op_ownX {op : Operator} {rc : Option Value} (M : MtX X.prog X.w X.K X.mg X.base k C (PySem.dunder op.info.2) ps sp) (hr : RoomG j X.A) (hk : k ≤ j) (T : L2N.Takes X W) (hE : ∀ cls d σ H, E cls d H → W cls d σ H) (hc : PySem.W.selfFirst X.K C = true)
    (h0 : PySem.W.findIn X.K (.ref C) (dunderR op.info.2) = some rc) (hp : rc = none ∨ ∃ g : Addr, rc = some (.ref g)) : OpR X (binaryOp op) (rOpX X.K C op sp E) := by
  obtain ⟨f, fd, F, hm, b, _⟩ := M.ex
  intro pins s σ H x y v u Q I rx ry hq
  obtain ⟨a, t, rfl, ha, ty, ht, h⟩ := hq
  cases rx
  obtain ⟨ox, od, J⟩ := is_inst I ha
  obtain ⟨m, hF⟩ := I.fr
  obtain ⟨Pk, Z, p, hx⟩ := kit_of I ry ty
  have lk : PySem.W.Looks (model X.prog X.w) s.heap (typeOf u) t := Z.ty _ _ I.kIn p
  have call : wpAny (model X.prog X.w) X.A (call (.ref f) [.ref a, u]) (PySem.W.CmpBack (EP X pins σ Q)) X.xe s := by
    refine wpAny_call (codeAny_mono (run_xE (vs := [V.ref a, y]) (us := [Value.ref a, u]) F (hr.mono hk) rfl T hE (b _ (F.len _ _ _ _ h)) I (.cons rfl (.cons ry .nil)) h) fun r s' z => ?_)
    cases r with
    | error e => exact z
    | ok fl =>
      cases fl with
      | ret v =>
        obtain ⟨y, H', I', ry, q⟩ := z
        have n := rel_ni ry
        show PySem.W.CmpBack _ v s'
        cases v <;> first | exact absurd rfl n | exact ⟨y, H', I', ry, q⟩
      | next => exact z
      | brk => exact z
      | cont => exact z
  rcases ht with rfl | ⟨tn, rfl, ⟨fo, h1⟩, ⟨ro, h2⟩, h3⟩
  · exact PySem.W.binop_K hF I.ok.mod.kin J lk hc hm.at_ hm.fn call
  · exact bin_any hF I.ok.mod.kin J lk hc hm.at_ hm.fn h0 hp h1 h2 h3 call
end
end Lw

/-! ## Fx7 -/
set_option maxHeartbeats 4000000
/-! C(k = e, ..), an __init__ of **parameters that may raise -/
namespace Lw
open PySem PySem.Spec PyProof.Rows L2
theorem cx_un {P : Program} {w : World} {outer : List Env} {H H2 : Hp} {s s2 s' : Shared} {E : XK} {e : Value} (kp : ∀ b o, s.heap.get? b = some o → s2.heap.get? b = some o) (un : Un (frs outer) [] H H2 s.heap s2.heap) (os : s2.os = s.os)
    (c : L2N.CX P w outer H2 s2 E e s') : L2N.CX P w outer H s E e s' := by
  obtain ⟨a, B, H', cls, d, rfl, fl, hok, ub, na, os', ag, hE⟩ := c
  have no : ∀ b : Addr, b ∉ ([] : List Addr) := fun b z => nomatch z
  refine ⟨a, B, H', cls, d, rfl, fl, hok, ⟨fun b o e n hb => ub.keep b o (kp b o e) (un.free b o e n (no b)) hb, fun b o e hb => ub.slot b o (kp b o e) hb, fun b o e n => ub.free b o (kp b o e) (un.free b o e n (no b)), fun b o e hb => ub.there b o (kp b o e) hb,
    fun b xs e => ub.tups b xs (un.tups b xs e), fun b o xs e => ub.frzs b o xs (un.frzs b o xs e), fun b ps e => ?_⟩, na, os'.trans os, ag, hE⟩
  obtain ⟨m1, q1⟩ := un.tbls b ps e
  obtain ⟨m2, q2⟩ := ub.tbls b _ q1
  exact ⟨m1 ++ m2, by rw [q2, Array.append_assoc]⟩
/-- a keyword's value under its key -/
def ent2 (p : Str × V) : Key × V := (Sum.inr p.1, p.2)
theorem kw_kvV : ∀ {ks : List Str} {vs : List V} {us : List Value}, Vals vs us → KV ((ks.zip vs).map ent2) ((ks.zip us).map fun p => ((Sum.inr p.1 : Key), p.2))
  | [], _, _, _ => .nil
  | _ :: _, [], _, r => by
    cases r
    exact .nil
  | k :: ks, v :: vs, _, r => by
    cases r with
    | cons h t => exact .cons ⟨rfl, h⟩ (kw_kvV t)
def FnKX (P : Program) (w : World) (K : PySem.W.Frag) (mg : Str → Option Value) (base : Heap) (k : Nat) (f : Addr) (ks : List Str) (sp : V → List V → Hp → XK → Prop) : Prop :=
  ∀ (A : Around) (outer : List Env) (s : Shared) (H : Hp) (x : V) (u : Value) (vs : List V) (us : List Value) (Q : VK) (E : XK), RoomG k A → Env0 P w K mg base A outer s H → RelV x u → Vals vs us → vs.length = ks.length → sp x vs H E →
    codeAny (model P w) A (.call (.ref f) ⟨[u], ks.zip us⟩) (CR (L2N.CX P w) outer P w H s Q E) s
section
variable {P : Program} {w : World} {K : PySem.W.Frag} {mg : Str → Option Value} {base : Heap} {k : Nat} {f : Addr} {fd : FuncData} {x qual p1 pd : Str} {st : Stmt} {N ks : List Str} {sp : List V → Hp → XK → Prop}
theorem fn_kwX (F : Fun K x qual st f fd) (S : FnScope N [p1, pd] (defScope st)) (hn : ks.Nodup) (hks : ks.length ≤ 60)
    (hb : ∀ (u : Value) (us : List Value), us.length = ks.length → bindArgs fd ⟨[u], ks.zip us⟩ = ((alloc ({ cls := .type "dict", data := .dict #[] } : Obj) : Sem Addr) >>= fun d =>
      (forIn (ks.zip us) PUnit.unit (fun x _ => (nsSet d x.1 x.2 >>= fun _ => pure (ForInStep.yield PUnit.unit))) >>= fun _ => pure ([(p1, u), (pd, Value.ref d)] : List (Str × Value)))))
    (hbody : ∀ (cdv : Value) (A : Around) (outer : List Env) (s : Shared) (H : Hp) (vs : List V) (Q : VK) (E : XK), RoomG k (A.deeper (envOfC qual (defScope st) s.heap.objs.size f cdv)) → sp vs H E →
      ∃ t, PSs (cxOf (L2N.CX P w) P w K mg base N qual (defScope st) f cdv A outer s H E) (defBody st) t ∧ t { nx := fun _ H' => Q .non H', rt := Q } (start N vs) H) :
    FnKX P w K mg base (k + 1) f ks (fun x vs H E => ∀ d, H d = none → sp [x, V.ref d] (upd H d (.dK ((ks.zip vs).map ent2))) E) := by
  obtain ⟨oc, od, kV, doc, pm, an, cdv, ct, osl, rfl, lk, hcd⟩ := F.ex
  intro A outer s H x u vs us Q E hr e0 rx r hl hq
  have hnn : H s.heap.objs.size = none := e0.hok.fresh (Nat.le_refl _)
  have hl1 : us.length = ks.length := by
    have := r.length
    omega
  refine StX.run_bnd (CX := L2N.CX P w) (E := E) lk hcd S hr.rm e0 (G := fun xs H2 => ∃ d, H d = none ∧ xs = [x, V.ref d] ∧ H2 = upd H d (.dK ((ks.zip vs).map ent2))) (fun A' Ex Q' h => ?_) fun s2 H2 xs ⟨d, hd, ex, eH⟩ hr' => ?_
  · rw [hb u us hl1]
    refine wpAny_bind (wpAny_alloc ?_)
    have k0 : ∀ b o, s.heap.get? b = some o → (s.heap.push ({ cls := .type "dict", data := .dict #[] } : Obj)).get? b = some o := fun b o e => Heap.get?_push_of_some _ e
    have hzk : (ks.zip us).map (·.1) = ks := List.map_fst_zip (by omega)
    refine wpAny_bind (fill_kw (ks.zip us) { s with heap := s.heap.push ({ cls := .type "dict", data := .dict #[] } : Obj) } [] 0 (show _ = some (PySem.W.dictOf [] 0) from Heap.get?_push_size _ rfl) (fun _ he => nomatch he) (fun _ he => nomatch he) (by rw [hzk]; exact hn) fun h' D kp z => wpAny_pure ?_)
    have kp1 : ∀ b o, s.heap.get? b = some o → h'.get? b = some o := fun b o e => kp b o (Nat.ne_of_lt (Heap.lt_size e)) (k0 b o e)
    have D2 : h'.get? s.heap.objs.size = some (PySem.W.dictOf (PySem.W.kwEs w.params s.toks (ks.zip us)) (0 + (ks.zip us).length)) := by
      have := D
      rw [List.nil_append] at this
      exact this
    have lz : (ks.zip vs).length ≤ 60 := by
      rw [List.length_zip]
      omega
    have new : ObjOk P w (upd H s.heap.objs.size (.dK ((ks.zip vs).map ent2))) h' s.heap.objs.size (.dK ((ks.zip vs).map ent2)) :=
      ⟨by rw [List.length_map]; exact Nat.le_trans lz (by decide), beq_eq_false_iff_ne.mpr (Ne.symm (Nat.ne_of_lt (StX.env0_big e0))), _, kw_kvV r, kw_dictOf P w D2 (by rw [hzk]; exact hn)⟩
    have sz : s.heap.objs.size ≤ h'.objs.size := by
      rw [z]
      show _ ≤ (s.heap.push _).objs.size
      rw [Heap.size_push]
      exact Nat.le_succ _
    have e1 := env0_new (tk := s.toks + (ks.zip us).length) e0 kp1 sz (Nat.le_refl _) new
    have un1 : Un (frs outer) [] H (upd H s.heap.objs.size (.dK ((ks.zip vs).map ent2))) s.heap h' := Un.laid kp1 (Nat.le_refl _) hnn
    exact h _ _ [x, V.ref s.heap.objs.size] [u, Value.ref s.heap.objs.size] e1 un1 rfl (fun e s' z => cx_un (s2 := { s with heap := h', toks := s.toks + (ks.zip us).length }) kp1 un1 rfl z) (.cons rx (.cons rfl .nil)) rfl ⟨_, hnn, rfl, rfl⟩
  · subst ex eH
    exact hbody cdv A outer s2 _ _ Q E ⟨hr', hr.gd⟩ (hq d hd)
end
/-- C(k = e, ..), which raises -/
def tNewX (ks : List Str) (sp : V → List V → Hp → XK → Prop) (C : Addr) (W : WX) (t : TA) : TE := fun σ H _ => t σ H fun vs H1 => vs.length = ks.length ∧ ∀ x dx, H1 x = none → H1 dx = none → dx ≠ x → sp (.ref x) vs (upd (upd H1 dx (.own x)) x (.ins C dx [])) (WX.at_ W σ)
structure MkX (P : Program) (w : World) (K : PySem.W.Frag) (mg : Str → Option Value) (base : Heap) (k : Nat) (x : Str) (C : Addr) (ks : List Str) (sp : V → List V → Hp → XK → Prop) : Prop where
  ex : ∃ f : Addr, Mk K C f ∧ FnKX P w K mg base k f ks sp ∧ mg x = some (.ref C)
section
variable {X : Cx} {W : WX} {k j : Nat} {C : Addr} {sp : V → List V → Hp → XK → Prop} {x : Str} {p pos : Pos} {ks : List Str} {kws : List Keyword} {tk : TA}
theorem pe_newX (M : MkX X.prog X.w X.K X.mg X.base k x C ks sp) (hr : RoomG j X.A) (hk : k + 1 ≤ j) (T : L2N.Takes X W) (hg : Gl X x) (hkw : PK X kws tk)
    (hall : (backToKw pos (keywordEach kws X.env)).all (·.1.isSome) = true := by rfl) (hks : (backToKw pos (keywordEach kws X.env)).filterMap (·.1) = ks := by rfl) (hdb : (x == ("__debug__" : Str)) = false := by decide)
    (hpl : ((backTo pos (starEach [] X.env)).any (·.1) || (backToKw pos (keywordEach kws X.env)).any (·.1.isNone)) = false := by rfl) : PE X (.Call (.Name x p) [] kws pos) (tNewX ks sp C W tk) := by
  obtain ⟨f, M, F, hm⟩ := M.ex
  refine ⟨fun pins s σ H Q I h => ?_⟩
  refine wpAny_Call_Name_kw (ld_glob I hg hm ?_ hdb)
  refine PySem.W.callWith_KW0 (first := []) (h₀ := X.base) I.ok.mod.kin M.kp hall (thn (hkw.run pos pins s σ H _ I h) fun us s1 ⟨vs, H1, I1, r, hl, q⟩ => ⟨I1.kIn, ?_⟩) hpl
  rw [hks]
  have hq := q (s1.heap.objs.size + 1) s1.heap.objs.size (I1.hok.fresh (Nat.le_succ _)) (I1.hok.fresh (Nat.le_refl _)) (Nat.ne_of_lt (Nat.lt_succ_self _))
  have I2 := Inv.made (C := C) I1
  refine wpAny_call (make_map (f := f) I1.kIn M.makes M.init (beq_iff_eq.mp M.fn) (codeAny_mono (F _ X.stack _ _ (V.ref (s1.heap.objs.size + 1)) (Value.ref (s1.heap.objs.size + 1)) vs us (fun _ _ => False) _ ((hr.mono hk).make C [] (ks.zip us)) (I2.env0.make C [] (ks.zip us)) rfl r hl hq) fun r s' hq' => ?_))
  cases r with
  | error e => exact T e s' (L2N.XE.of_call I2 (fun _ _ _ h => h) hq')
  | ok fl =>
    cases fl with
    | ret u =>
      obtain ⟨v, H', _, _, _, _, _, z⟩ := hq'
      exact z.elim
    | next => exact False.elim hq'
    | brk => exact False.elim hq'
    | cont => exact False.elim hq'
end
end Lw

/-! ## Fx8 -/
set_option maxHeartbeats 4000000
/-! repr of any data without dicts, an exception handled or not -/
namespace Lw
open PySem PySem.Spec PyProof.Rows L2
def rReprV (K : PySem.W.Frag) : List V → Hp → VK → Prop := fun xs H Q => ∃ (v : V) (d : PyData), xs = [v] ∧ Dp K H v d ∧ d.showable = true ∧ d.hasDict = false ∧ d.depth ≤ 50 ∧ d.shown.length ≤ sizeLine ∧ (∀ i, d = .int i → i.natAbs.log2 < 1920) ∧ Q (.str d.shown) H
theorem call_reprV {X : Cx} (hg : X.A.guards = some []) (hu : X.A.units + 64 < cLine) : CallR X (.builtin "repr") (rReprV X.K) := by
  intro pins s σ H xs us Q I r h
  obtain ⟨v, d, rfl, hd, hs, hx, hdep, hl, hi, q⟩ := h
  obtain ⟨u, rfl, rx⟩ := vals1 r
  obtain ⟨as, rd⟩ := Dp.reads I d _ u hd rx
  have fin : ∀ {t : Tok} {tk : Nat}, EP X pins σ Q (.str d.shown t) { s with toks := tk } := fun {t tk} => ⟨.str d.shown, H, I.tok _, ⟨t, rfl⟩, q⟩
  cases rd with
  | none => exact PySem.P.repr_of_none fin
  | bool b => exact PySem.P.repr_of_bool (by cases b <;> exact fin)
  | int i t => exact PySem.P.repr_of_int (hi i rfl) fin
  | str z t => exact PySem.P.repr_of_str fin hl
  | list h1 h2 h3 h4 => exact repr_of_reads' (.list h1 h2 h3 h4) hs (fun z => by rw [hx] at z; cases z) hg (by omega) (fun _ _ e => e) (fun h' u tk kk => ⟨.str _, H, I.kept (h' := h') (t' := tk) kk, ⟨u, rfl⟩, q⟩) hl
  | tuple h1 h2 h3 h4 => exact repr_of_reads' (.tuple h1 h2 h3 h4) hs (fun z => by rw [hx] at z; cases z) hg (by omega) (fun _ _ e => e) (fun h' u tk kk => ⟨.str _, H, I.kept (h' := h') (t' := tk) kk, ⟨u, rfl⟩, q⟩) hl
  | dict h1 h2 h3 h4 h5 => simp [PyData.hasDict] at hx
end Lw
namespace Lw
open PySem PySem.Spec PyProof.Rows L2
/-- a dict of texts and whole numbers, as data -/
def entD (us : List (Str × Int)) : List (PyData × PyData) := us.map fun q => (.str q.1, .int q.2)
theorem dct_reads {P : Program} {w : World} {h : Heap} : ∀ {el : List DictEntry} {vs : List (Key × Value)} {us : List (Str × Int)}, Pairs (mixKind P w) el vs → KV (us.map fun q => ((Sum.inr q.1 : Key), V.int q.2)) vs →
    ReadsAll h (el.map (·.key)) ((entD us).map (·.1)) [] ∧ ReadsAll h (el.map (·.val)) ((entD us).map (·.2)) []
  | el, vs, [], hp, hv => by
    cases hv
    cases hp
    exact ⟨.nil, .nil⟩
  | el, vs, q :: us, hp, hv => by
    cases hv with
    | cons hq hr =>
      cases hp with
      | cons hk he hrest =>
        obtain ⟨h1, h2⟩ := dct_reads (h := h) hrest hr
        obtain ⟨e1, e2⟩ := hq
        rcases keyIs_shape hk with ⟨i, t, ek, e⟩ | ⟨z, t, ek, e⟩
        · rw [← e1] at ek
          cases ek
        · rw [← e1] at ek
          cases ek
          obtain ⟨t2, ev⟩ := e2
          refine ⟨?_, ?_⟩
          · have := ReadsAll.cons (h := h) (Reads.str q.1 t) h1
            rw [← e] at this
            exact this
          · have := ReadsAll.cons (h := h) (Reads.int q.2 t2) h2
            rw [← ev, ← he] at this
            exact this
/-- repr of such a dict -/
def rReprD : List V → Hp → VK → Prop := fun xs H Q => ∃ (a : Addr) (us : List (Str × Int)), xs = [.ref a] ∧ H a = some (.dK (us.map fun q => ((Sum.inr q.1 : Key), V.int q.2))) ∧ (PyData.dict (entD us)).showable = true ∧ (PyData.dict (entD us)).depth ≤ 50 ∧ (PyData.dict (entD us)).shown.length ≤ sizeLine ∧ Q (.str (PyData.dict (entD us)).shown) H
theorem call_reprD {X : Cx} (hg : X.A.guards = some []) (hu : X.A.units + 64 < cLine) : CallR X (.builtin "repr") rReprD := by
  intro pins s σ H xs us Q I r h
  obtain ⟨a, ts, rfl, hd, hs, hdep, hl, q⟩ := h
  obtain ⟨u, rfl, rx⟩ := vals1 r
  cases rx
  obtain ⟨_, hsys, vs, kv, o, es, ep, ho, hx, hda, _, hp, _⟩ := (show ObjOk X.prog X.w H s.heap a _ from I.hok a _ hd)
  obtain ⟨h1, h2⟩ := dct_reads (h := s.heap) hp kv
  refine repr_of_reads' (d := .dict (entD ts)) (.dict ho hx.1 hda h1 h2) hs (fun _ m => ?_) hg (by omega) (fun _ _ e => e) (fun h' u tk kk => ⟨.str _, H, I.kept (h' := h') (t' := tk) kk, ⟨u, rfl⟩, q⟩) hl
  have e : sysModules = a := by simpa using m
  rw [← e] at hsys
  simp at hsys
end Lw

/-! ## Fx9 -/
set_option maxHeartbeats 4000000
/-! repr of a list or a tuple with one instance in it, whose class has its own __repr__ -/
namespace Lw
open PySem PySem.W PySem.Spec PySem.Calls PyProof.Rows Builtin
/-- what an own __repr__ gives -/
def TxtBack (Q : Str → Shared → Prop) (v : Value) (s' : Shared) : Prop := ∃ z t, v = .str z t ∧ Q z s'
section
variable {prog : Program} {w : World} {M : Model} {A : Around} {E : Value → Shared → Prop} {s : Shared} {K : Frag} {x C f : Addr} {ox : Obj} {od : Option Obj}
theorem own_under {base : Nat} {Q : Str → Shared → Prop} (hb : base ≤ sizeLine) (hu : A.units < cLine) (X : K.In s.heap) (I : InstAt s.heap x ox C od) (hs : findIn K (.ref C) "__repr__" = some (some (.ref f))) (hf : isFn K (.ref f) = true)
    (h : wpAny M A (call (.ref f) [.ref x]) (TxtBack Q) E s) : wpAny M A (pyReprUnder base (.ref x)) Q E s := by
  have hn : ¬ base > sizeLine := Nat.not_lt.mpr hb
  unfold pyReprUnder
  rw [if_neg hn]
  refine wpAny_bind ?_
  unfold pyReprObjUnder pyReprObjBy
  refine wpAny_bind (wpAny_cRoomFor hu ?_)
  refine wpAny_bind (wpAny_bind (I.type.here ((looks_findIn X hs).here ?_)))
  show wpAny _ _ (if (some (Value.ref f)).isNone = true then _ else _) _ _ _
  rw [if_neg (by simp)]
  have fin : wpAny M A (call (.ref f) [.ref x] >>= fun v => pure (some v)) (fun r s' => ∃ z t, r = some (.str z t) ∧ Q z s') E s := wpAny_bind (wpAny_mono h (fun v s' ⟨z, t, e, q⟩ => wpAny_pure ⟨z, t, by rw [e], q⟩) fun _ _ h' => h')
  refine wpAny_bind (m := callSpecialIfBoundBy? _ (.ref x) (Str.ofString "__repr__")) ?_
  refine wpAny_mono (Q := fun r s' => ∃ z t, r = some (.str z t) ∧ Q z s') ?_ (fun r s' hr => ?_) fun _ _ y => y
  · unfold callSpecialIfBoundBy? bindSpecialIfBound?
    refine wpAny_holding (wpAny_bind (wpAny_bind (wpAny_bind (I.type.here ((looks_findIn X hs).here ?_)))))
    refine wpAny_bind (wpAny_askSetting (wpAny_ite ?_))
    split
    · exact wpAny_bind ((bind_fn X _ (beq_iff_eq.mp hf)).here (wpAny_pure (by exact fin)))
    · exact wpAny_tryCatch (wpAny_bind ((bind_fn X _ (beq_iff_eq.mp hf)).here (wpAny_pure (by exact fin))))
  · obtain ⟨z, t, rfl, q⟩ := hr
    refine wpAny_bind (wpAny_isInstance (typeIs_str _ _ _) isSubtype_str_str ?_)
    exact wpAny_pure (wpAny_pure q)
end
end Lw

/-! ## Fx10 -/
set_option maxHeartbeats 4000000
/-! repr([x]), x an instance with an own __repr__ -/
namespace Lw
open PySem PySem.Spec PyProof.Rows L2 L2H
abbrev lpC (a P : Addr) (i n : Int) : Code := .builtin "list.__repr__.loop" ⟨[.ref a, rawInt i, .ref P, rawInt n], []⟩
theorem lp_frames {A : Around} {a P : Addr} {i n : Int} : (A.under (lpC a P i n)).frames = A.frames := by
  first | rfl | simp [Around.under, Code.frames, Code.isFrame]
theorem lp_weight {a P : Addr} {i n : Int} : (lpC a P i n).weight = 1 := by
  have g := PySem.isGuard_list_loop ⟨[.ref a, rawInt i, .ref P, rawInt n], []⟩
  unfold Code.weight
  rw [g]
  first | rfl | simp [Code.frames, Code.isFrame, Code.isCreation, Code.isCaller]
theorem lp_depth {A : Around} {a P : Addr} {i n : Int} : (A.under (lpC a P i n)).depth = A.depth + 1 := by
  show A.depth + (lpC a P i n).weight = _
  rw [lp_weight]
theorem lp_room {A : Around} {k : Nat} {a P : Addr} {i n : Int} (r : RoomH (k + 1) A) : RoomH k (A.under (lpC a P i n)) := by
  have u := PySem.units_under_list_loop A ⟨[.ref a, rawInt i, .ref P, rawInt n], []⟩
  exact ⟨by rw [lp_depth]; have := r.dp; omega, by rw [u]; have := r.un; omega⟩
def rRepr1 (C : Addr) (sp : Sp) : List V → Hp → VK → Prop := fun xs H Q => ∃ a x, xs = [.ref a] ∧ H a = some (.lst [.ref x]) ∧ Is C H x ∧ sp [.ref x] H (fun v H' => ∃ z : Str, v = .str z ∧ z.length ≤ 1000000 ∧ H' a = some (.lst [.ref x]) ∧ Q (.str (listText [z])) H') E0
theorem call_repr1 {X : Cx} {k j : Nat} {C : Addr} {ps : List Str} {sp : Sp} (M : MtQ X.prog X.w X.K X.mg X.base k C "__repr__" ps sp) (hg : X.A.guards = some []) (hr : RoomH j X.A) (hk : k + 4 ≤ j) : CallR X (.builtin "repr") (rRepr1 C sp) := by
  obtain ⟨f, fd, F, hm, b, _⟩ := M.ex
  intro pins s σ H xs us Q I r hq
  obtain ⟨a, x, rfl, hl, hx, h⟩ := hq
  obtain ⟨u, rfl, rx⟩ := vals1 r
  cases rx
  obtain ⟨ox, od, J⟩ := is_inst I hx
  obtain ⟨its, rv, ⟨⟨cls, dd, data, sl⟩, n, ho, hc, hdn, hd⟩, hlen⟩ := I.list (.inl (.inl hl))
  simp only at hc hd
  subst hc hd
  obtain ⟨u, rfl⟩ : ∃ u, its = [u] := by
    have := rv.length
    match its, this with
    | [u], _ => exact ⟨u, rfl⟩
  cases rv with
  | cons ru _ =>
    cases ru
    have hr1 : RoomH (k + 3) X.A.in1 := RoomHin1 (hr.mono (show k + 3 + 1 ≤ j by omega))
    refine call_repr_slot (RoomHunits hr1) ⟨_, ho, rfl⟩ PySem.F.slot_list_repr.toG ?_
    refine wpAny_call (codeAny_call_builtin PySem.F.slot_list_repr.plain PySem.F.entry_list_repr (PySem.F.slot_list_repr.check _ _ _ _ _ _ _ _ ⟨_, ho, rfl⟩ (PySem.F.args_list_repr_1 _) ?_))
    refine wpAny_list_repr_head (A := X.A.in1.in1) hg (fun v rest kw hm => nomatch hm) ho rfl ?_
    refine wpAny_bind (m := newList []) (wpAny_newObj_type ?_)
    refine wpAny_pure ⟨PySem.F.quiet_list_repr_loop _, ?_⟩
    have kp : ∀ b o, s.heap.get? b = some o → (s.heap.push ({ cls := .type "list", data := .seq [].toArray } : Obj)).get? b = some o := fun b o e => Heap.get?_push_of_some _ e
    have I1 : Inv X pins σ H { s with heap := s.heap.push ({ cls := .type "list", data := .seq [].toArray } : Obj) } := I.kept (t' := s.toks) kp
    have gP : (s.heap.push ({ cls := .type "list", data := .seq [].toArray } : Obj)).get? s.heap.objs.size = some ({ cls := .type "list", data := .seq [].toArray } : Obj) := Heap.get?_push_size _ rfl
    have nP : H s.heap.objs.size = none := I.hok.fresh (Nat.le_refl _)
    have fP : s.heap.objs.size ∉ frs X.stack := fun z => by
      rcases List.mem_cons.mp (I.stkSub _ z) with e | e
      · have h1 := I.lt
        rw [← e] at h1
        exact Nat.lt_irrefl _ h1
      · exact I.nofs (Nat.le_refl _) e
    have neP : a ≠ s.heap.objs.size := Nat.ne_of_lt (Heap.lt_size ho)
    obtain ⟨ox1, od1, J1⟩ := is_inst I1 hx
    have ho1 := kp _ _ ho
    generalize hs1 : ({ s with heap := s.heap.push ({ cls := .type "list", data := .seq [].toArray } : Obj) } : Shared) = s1 at I1 J1 ⊢
    have gP1 : s1.heap.get? s.heap.objs.size = some ({ cls := .type "list", data := .seq [].toArray } : Obj) := by rw [← hs1]; exact gP
    have ho2 : s1.heap.get? a = some ({ cls := .type "list", dict := dd, data := .seq [Value.ref x].toArray n, slots := sl } : Obj) := by rw [← hs1]; exact ho1
    have kp1 : ∀ b o, s.heap.get? b = some o → s1.heap.get? b = some o := fun b o e => by rw [← hs1]; exact kp b o e
    have os1 : s1.os = s.os := by rw [← hs1]
    refine codeAny_builtin PySem.F.entry_list_repr_loop ?_
    show wpAny _ (X.A.in1.under (lpC a s.heap.objs.size 0 0)) (Builtin.«list.__repr__.loop» ⟨[.ref a, .int 0 0, .ref s.heap.objs.size, .int 0 0], []⟩) _ _ _
    rw [PySem.repr_loop_tree]
    refine wpAny_bind (wpAny_listItems ho2 rfl ?_)
    have hr2 : RoomH (k + 2) (X.A.in1.under (lpC a s.heap.objs.size 0 0)) := lp_room hr1
    refine wpAny_bind (wpAny_holding (own_under (base := 1) (by decide) (RoomHunits hr2) I1.kIn J1 hm.at_ hm.fn (wpAny_call (codeAny_mono (F.run _ X.stack s1 H ⟨[.ref x], []⟩ [.ref x] [.ref x] _ (hr2.mono (by omega)) ?_ (.of_eq (b _ (F.len _ _ _ _ h))) (.cons rfl .nil) h) fun r s2 hq => ?_))))
    · have e := I1.env0
      exact ⟨(lp_frames (A := X.A.in1)).trans e.frames, e.mod, e.bs, e.bsz, e.funs, e.frf, e.hok, e.bare⟩
    · cases r with
      | error e => exact False.elim hq
      | ok fl =>
        cases fl with
        | ret u =>
          obtain ⟨v, H', os2, bare2, un2, hok2, rv, z, rfl, hz, hl', q⟩ := hq
          obtain ⟨t, rfl⟩ := rv
          refine ⟨z, t, rfl, ?_⟩
          have no : ∀ b : Addr, b ∉ ([] : List Addr) := fun b z => nomatch z
          have gP2 := un2.keep _ _ gP1 nP fP (no _)
          have hz2 : z.length ≤ sizeLine := Nat.le_trans hz (by decide)
          obtain ⟨_, its2, n2, rv2, ho3⟩ := (show ObjOk X.prog X.w H' s2.heap a (.lst [.ref x]) from hok2 a _ hl')
          obtain ⟨u2, rfl⟩ : ∃ u, its2 = [u] := by
            have := rv2.length
            match its2, this with
            | [u], _ => exact ⟨u, rfl⟩
          refine wpAny_bind (wpAny_mkStr ?_ hz2)
          refine wpAny_bind ?_
          show wpAny _ _ (updateSeq s.heap.objs.size _) _ _ _
          refine wpAny_updateSeq (o := { cls := .type "list", data := .seq [].toArray }) gP2 rfl (wpAny_pure ⟨PySem.F.quiet_list_repr_loop _, ?_⟩) (by decide)
          have lt2 : ∀ b o, s.heap.get? b = some o → b ≠ s.heap.objs.size := fun b o e => Nat.ne_of_lt (Heap.lt_size e)
          have off : ∀ {fn : Obj → Obj} (b : Addr), b ≠ s.heap.objs.size → (s2.heap.update s.heap.objs.size fn).get? b = s2.heap.get? b := fun b hb => Heap.get?_update_other _ _ (Ne.symm hb)
          have gP3 := Heap.get?_update_self (Obj.mapSeq (·.push (Value.str z s2.toks))) gP2 rfl
          refine codeAny_builtin PySem.F.entry_list_repr_loop ?_
          show wpAny _ _ (Builtin.«list.__repr__.loop» ⟨[.ref a, .int 1 0, .ref s.heap.objs.size, .int _ 0], []⟩) _ _ _
          rw [PySem.repr_loop_tree]
          refine wpAny_bind (wpAny_listItems ((off a neP).trans ho3) rfl ?_)
          show wpAny _ _ (PySem.reprEnd (.ref s.heap.objs.size)) _ _ _
          unfold PySem.reprEnd
          refine wpAny_bind (wpAny_listItems gP3 rfl ?_)
          rw [show (([].toArray : Array Value).push (Value.str z s2.toks)).toList = strValues [(z, s2.toks)] from rfl, PySem.repr_fold]
          refine wpAny_bind (wpAny_pure ?_)
          refine wpAny_bind (wpAny_mkStr (wpAny_pure ?_) ?_)
          · refine ⟨_, _, rfl, I.after ⟨.str (listText [z]), H', os2.trans os1, bare2, ⟨fun b o e n hf hx => ?_, fun b o e n hf hx => ?_, fun b o e n hx => un2.free b o (kp1 b o e) n hx, fun b o e hx => ?_, un2.tups, un2.frzs, un2.tbls⟩, fun b o e => ?_, ⟨_, rfl⟩, q⟩⟩
            · exact (off b (lt2 b o e)).trans (un2.keep b o (kp1 b o e) n hf hx)
            · obtain ⟨sl2, e2⟩ := un2.slot b o (kp1 b o e) n hf hx
              exact ⟨sl2, (off b (lt2 b o e)).trans e2⟩
            · obtain ⟨o2, e2⟩ := un2.there b o (kp1 b o e) hx
              exact ⟨o2, (off b (lt2 b o e)).trans e2⟩
            · have nP2 : H' s.heap.objs.size = none := un2.free _ _ gP1 nP (no _)
              refine (hok2 b o e).stay (fun c v hc y => (off c ?_).trans y) (fun _ y => y) fun _ _ y => y
              intro ec
              subst ec
              rcases hc with hc | hc
              · rw [← hc, nP2] at e
                cases e
              · rw [nP2] at hc
                cases hc
          · have el : (listText [z]).length = z.length + 2 := by
              show (((("[" : Str) ++ ((if 0 > 0 then ", " else "" : String) : Str)) ++ z) ++ ("]" : Str)).length = _
              rw [strLen_append, strLen_append, strLen_append]
              show 1 + 0 + z.length + 1 = _
              omega
            show (listText [z]).length ≤ sizeLine
            rw [el]
            exact Nat.le_trans (show z.length + 2 ≤ 1000002 by omega) (by decide)
        | next => exact False.elim hq
        | brk => exact False.elim hq
        | cont => exact False.elim hq
end Lw

/-! ## Fx11 -/
set_option maxHeartbeats 4000000
/-! repr((x,)), x an instance with an own __repr__ -/
namespace Lw
open PySem PySem.Spec PyProof.Rows L2 L2H
abbrev tpC (a : Addr) : Code := .builtin "tuple.__repr__" ⟨[.ref a], []⟩
theorem tp_frames {A : Around} {a : Addr} : (A.under (tpC a)).frames = A.frames := by
  first | rfl | simp [Around.under, Code.frames, Code.isFrame]
theorem tp_weight {a : Addr} : (tpC a).weight = 1 := by
  have g := PySem.isGuard_tuple_repr ⟨[.ref a], []⟩
  unfold Code.weight
  rw [g]
  first | rfl | simp [Code.frames, Code.isFrame, Code.isCreation, Code.isCaller]
theorem tp_depth {A : Around} {a : Addr} : (A.under (tpC a)).depth = A.depth + 1 := by
  show A.depth + (tpC a).weight = _
  rw [tp_weight]
theorem tp_room {A : Around} {k : Nat} {a : Addr} (r : RoomH (k + 1) A) : RoomH k (A.under (tpC a)) := by
  have u := PySem.units_under_tuple_repr A ⟨[.ref a], []⟩
  exact ⟨by rw [tp_depth]; have := r.dp; omega, by rw [u]; have := r.un; omega⟩
def rRepr1T (C : Addr) (sp : Sp) : List V → Hp → VK → Prop := fun xs H Q => ∃ a x, xs = [.ref a] ∧ H a = some (.tup [.ref x]) ∧ Is C H x ∧ sp [.ref x] H (fun v H' => ∃ z : Str, v = .str z ∧ z.length ≤ 1000000 ∧ Q (.str (tupleText [z])) H') E0
theorem call_repr1T {X : Cx} {k j : Nat} {C : Addr} {ps : List Str} {sp : Sp} (M : MtQ X.prog X.w X.K X.mg X.base k C "__repr__" ps sp) (hg : X.A.guards = some []) (hr : RoomH j X.A) (hk : k + 4 ≤ j) : CallR X (.builtin "repr") (rRepr1T C sp) := by
  obtain ⟨f, fd, F, hm, b, _⟩ := M.ex
  intro pins s σ H xs us Q I r hq
  obtain ⟨a, x, rfl, hl, hx, h⟩ := hq
  obtain ⟨u, rfl, rx⟩ := vals1 r
  cases rx
  obtain ⟨ox, od, J⟩ := is_inst I hx
  obtain ⟨_, its, rv, o, ho, hc, n, hd⟩ := (show ObjOk X.prog X.w H s.heap a (.tup [.ref x]) from I.hok a _ hl)
  obtain ⟨u, rfl⟩ : ∃ u, its = [u] := by
    have := rv.length
    match its, this with
    | [u], _ => exact ⟨u, rfl⟩
  cases rv with
  | cons ru _ =>
    cases ru
    have hr1 : RoomH (k + 3) X.A.in1 := RoomHin1 (hr.mono (show k + 3 + 1 ≤ j by omega))
    have hr2 : RoomH (k + 2) (X.A.in1.under (tpC a)) := tp_room hr1
    refine call_repr_slot (RoomHunits hr1) ⟨_, ho, hc⟩ PySem.F.slot_tuple_repr ?_
    refine wpAny_call (codeAny_call_builtin_own (Code.quiet_builtin _ (by decide +kernel)) PySem.F.entry_tuple_repr (PySem.F.slot_tuple_repr.check _ _ _ _ _ _ _ _ ⟨_, ho, hc⟩ (PySem.F.args_tuple_repr_1 _) ?_))
    show wpOwn (model X.prog X.w) X.A.in1 (tpC a) (Builtin.tupleReprAt 0 ⟨[.ref a], []⟩) _ _ s
    rw [PySem.tuple_repr_tree, PySem.tupleReprUnderWay_eq]
    refine wpOwn_bind (PySem.wpOwn_stackTailAny (g := []) hg (PySem.tupGuardF_off _) (PySem.tupGuardF_pos _) ?_)
    refine wpOwn_of_wpAny ?_
    show wpAny _ _ (PySem.tupleReprRest 0 (.ref a)) _ _ s
    unfold PySem.tupleReprRest Builtin.Tuple.tupleItemsOf
    refine wpAny_bind (wpAny_bind (wpAny_seqItems ho hd (wpAny_pure ?_)))
    rw [← Array.forIn_toList]
    show wpAny _ _ (forIn [Value.ref x] _ PySem.tupBody >>= _) _ _ s
    rw [List.forIn_cons]
    refine wpAny_bind (wpAny_bind (wpAny_bind (own_under (base := 1) (by decide) (RoomHunits hr2) I.kIn J hm.at_ hm.fn (wpAny_call (codeAny_mono (F.run _ X.stack s H ⟨[.ref x], []⟩ [.ref x] [.ref x] _ (hr2.mono (by omega)) ?_ (.of_eq (b _ (F.len _ _ _ _ h))) (.cons rfl .nil) h) fun r s2 hq => ?_)))))
    · have e := I.env0
      exact ⟨(tp_frames (A := X.A.in1)).trans e.frames, e.mod, e.bs, e.bsz, e.funs, e.frf, e.hok, e.bare⟩
    · cases r with
      | error e => exact False.elim hq
      | ok fl =>
        cases fl with
        | ret u =>
          obtain ⟨v, H', os2, bare2, un2, hok2, rv, z, rfl, hz, q⟩ := hq
          obtain ⟨t, rfl⟩ := rv
          refine ⟨z, t, rfl, wpAny_pure ?_⟩
          show wpAny _ _ (forIn [] _ PySem.tupBody) _ _ s2
          rw [List.forIn_nil]
          refine wpAny_pure ?_
          have ez : tupleText [z] = ("(" : Str) ++ Str.join ", " [z] ++ (",)" : Str) := rfl
          have el : (tupleText [z]).length = z.length + 3 := by
            rw [ez, strLen_append, strLen_append]
            show 1 + z.length + 2 = _
            omega
          have hz2 : (tupleText [z]).length ≤ sizeLine := by
            rw [el]
            exact Nat.le_trans (show z.length + 3 ≤ 1000003 by omega) (by decide)
          obtain ⟨v', H3, I3, r3, q3⟩ := I.after (Q := fun v H' => v = .str (tupleText [z]) ∧ Q v H') (u := Value.str (tupleText [z]) s2.toks) ⟨.str (tupleText [z]), H', os2, bare2, un2, hok2, ⟨_, rfl⟩, rfl, q⟩
          obtain ⟨rfl, q4⟩ := q3
          refine wpAny_bind (wpAny_mkStr (x := tupleText [z]) (wpAny_pure ?_) hz2)
          exact ⟨_, _, rfl, _, H3, I3.tok _, r3, q4⟩
        | next => exact False.elim hq
        | brk => exact False.elim hq
        | cont => exact False.elim hq
end Lw

/-! ## Fx12 -/
set_option maxHeartbeats 4000000
/-! a tuple walked to its end while an exception is handled -/
namespace Lw
open PySem PySem.Spec PyProof.Rows L2 L2H HotX
section
variable {prog : Program} {w : World} {A : Around} {E : Value → Shared → Prop} {s : Shared}
theorem tuple_end_hot {it t x1 : Addr} {i : Nat} {items : Array Value} {Q : Option Value → Shared → Prop} (hot : HotAt A x1 s.heap) (hne : x1 ≠ it)
    (hit : s.heap.IsTupleIter it t i) (ht : s.heap.IsTuple t items) (hx : items[i]? = none)
    (hQ : ∀ h', (∀ b o, b ≠ it → s.heap.get? b = some o → h'.get? b = some o) → Q none { s with heap := h' }) : wpAny (model prog w) A (pyNext (.ref it)) Q E s := by
  obtain ⟨o, ho, hc, hd⟩ := id hit
  obtain ⟨ol, hol, _, nl, hdl⟩ := ht
  obtain ⟨hh, o1, vs1, h1, d1, c1⟩ := hot
  unfold pyNext
  refine wpAny_bind (wpAny_attempt (wpAny_callSpecial?_slot (name := Str.ofString "__next__") hit.typeIs F.slot_tuple_iterator_next
    (wpAny_call_entry F.slot_tuple_iterator_next hit.typeIs F.entry_tuple_iterator_next ?_ (F.args_tuple_iterator_next_1 _))))
  show wpAny _ _ (field (.ref it) 0 >>= _) _ _ s
  refine wpAny_bind (wpAny_field ho hd (x := .ref t) rfl ?_)
  show wpAny _ _ (if (Value.ref t == Value.none) = true then _ else _) _ _ s
  rw [if_neg (show ¬ ((Value.ref t == Value.none) = true) from Bool.false_ne_true)]
  show wpAny _ _ (field (.ref it) 1 >>= _) _ _ s
  refine wpAny_bind (wpAny_field ho hd (x := .int i 0) rfl ?_)
  show wpAny _ _ (seqItems? (.ref t) >>= _) _ _ s
  refine wpAny_bind (wpAny_seqItems hol hdl ?_)
  simp only [Int.toNat_natCast, hx]
  refine wpAny_bind (wpAny_rule (wpAny_bind (wpAny_setField ho hd (by simp) ?_)))
  show wpAny _ _ (newExc (.type "StopIteration") [] >>= _) _ _ _
  refine wpAny_bind ?_
  simp only [newExc, newTuple]
  refine wpAny_bind (wpAny_newObj_type ?_ (by size_fits))
  refine wpAny_bind (m := firstArgMember _ _) (wpAny_of_eq (a := Value.none) (by first | rfl | (simp only [firstArgMember]; rfl)) ?_)
  refine wpAny_newObj_type ?_ (by size_fits)
  have up : ∀ {b : Addr} {u : Obj} {fn : Obj → Obj}, b ≠ it → s.heap.get? b = some u → (s.heap.update it fn).get? b = some u := fun hb e => (Heap.get?_update_other _ _ (Ne.symm hb)).trans e
  refine raiseNew_hot ⟨hh, o1, vs1, Heap.get?_push_of_some _ (Heap.get?_push_of_some _ (up hne h1)), d1, c1⟩ (Nat.ne_of_lt (Heap.lt_size (Heap.get?_push_of_some _ (up hne h1)))) (Heap.get?_push_size _ rfl) rfl (by first | (simp; done) | (simp; omega) | (simp only [Array.size_append]; simp; omega)) ?_
  refine wpAny_bind (wpAny_isInstance (T := "StopIteration") (b := true) ⟨_, Heap.get?_update_self _ (Heap.get?_push_size _ rfl) rfl, rfl⟩ isSubtype_stop ?_)
  refine wpAny_pure (hQ _ fun b o hb e => ?_)
  rw [Heap.get?_update_other _ _ (Nat.ne_of_gt (Heap.lt_size (Heap.get?_push_of_some _ (up hb e))))]
  exact Heap.get?_push_of_some _ (Heap.get?_push_of_some _ (up hb e))
end
/-- a tuple's items, one by one -/
theorem turn_tupleH {P : Program} {w : World} {K : PySem.W.Frag} {tg : Expr} (a it : Addr) : TurnH P w K tg (Itt K a) [it] it (fun i h => h.IsTupleIter it a i) where
  mem := by simp
  obj := fun i h st b hb => by
    obtain rfl : b = it := by simpa using hb
    obtain ⟨o, e, c, d⟩ := st
    exact ⟨o, e, fun v z => by rw [d] at z; cases z⟩
  keep := fun i h h' st k => st.at fun o e => k it (by simp) o e
  item := by
    rintro X rfl rfl rfl hc i pins s σ H E I hf st ⟨xs, x, hq, hx⟩
    obtain ⟨its, rv, p, hz⟩ := I.tuple hq
    obtain ⟨u, hu, ru⟩ := rv.get hx
    obtain ⟨f0, f1, f2, f3, f4, f5⟩ := hf it (by simp)
    refine wpAny_pyNext_tuple_item st (show s.heap.IsTuple a its.toArray from p) (x := u) (by simpa using hu) fun h' st' sb => ?_
    have I1 : Inv X pins σ H { s with heap := h' } := I.turned (t' := s.toks) (fun b o hb e => (sb.2 b hb).trans e) f0 f1 f3 f4 f5
    obtain ⟨o, e, c, d⟩ := id st'
    exact ⟨u, rfl, go_of (s := { s with heap := h' }) e c d (by decide) ⟨x, H, I1, ru, ⟨rfl, fun ys hy => by rw [I.tuple_inj hy hq]; exact hx⟩, st', fun b hb => (hf b hb).1⟩⟩
  done := by
    rintro X rfl rfl rfl hc i pins s σ H E I hf st ⟨xs, hq, hx⟩
    obtain ⟨its, rv, p, hz⟩ := I.tuple hq
    obtain ⟨f0, f1, f2, f3, f4, f5⟩ := hf it (by simp)
    obtain ⟨x1, hot⟩ := hc.at I
    have ne : x1 ≠ it := fun e => by
      obtain ⟨_, o1, vs1, h1, d1, c1⟩ := hot
      obtain ⟨o, e2, c, d⟩ := st
      rw [e, e2] at h1
      cases h1
      rw [d] at d1
      cases d1
      simp at c1
    have hl := rv.length
    exact tuple_end_hot hot ne st (show s.heap.IsTuple a its.toArray from p) (by simp; omega) fun h' eb => ⟨rfl, I.turned (t' := s.toks) eb f0 f1 f3 f4 f5⟩
  self := fun _ _ _ _ _ st h => wpAny_pyIter_tupleiter st h
/-- for .. in a tuple, an exception handled -/
theorem pi_tupH {X : Cx} {tg l : Expr} {tl : TE} (hl : PE X l tl) : PIH X tg l (iTup X.K tl) := by
  refine ⟨fun pins s σ H R I h => ?_⟩
  refine thn (hl.run pins s σ H _ I h) fun v s1 ⟨x, H1, I1, r1, q1⟩ => ?_
  obtain ⟨a, rfl, ⟨xs, hq⟩, q⟩ := q1
  cases r1
  obtain ⟨its, rv, p, hz⟩ := I1.tuple hq
  refine wpAny_pyIter_tuple (show s1.heap.IsTuple a its.toArray from p) ?_
  refine ⟨s1.heap.objs.size, [s1.heap.objs.size], _, _, H1, rfl, I1.kept (t' := s1.toks) fun b o e => Heap.get?_push_of_some _ e, turn_tupleH a _, ⟨_, Heap.get?_push_size _ rfl, rfl, rfl⟩, fun b hb => ?_, q⟩
  obtain rfl : b = s1.heap.objs.size := by simpa using hb
  exact I1.fpOk (Nat.le_refl _) (I1.hok.fresh (Nat.le_refl _))
end Lw

/-! ## Fx13 -/
set_option maxHeartbeats 4000000
/-! x, y = t and for x, y in .., while an exception is handled -/
namespace Lw
open PySem PySem.Spec PyProof.Rows L2 L2H HotX
section
variable {prog : Program} {w : World} {A : Around} {E : Value → Shared → Prop} {s : Shared}
theorem unpack_hot {t x1 : Addr} {items : Array Value} {targets : List (Bool × (Value → Sem Unit))} {Q : Unit → Shared → Prop} (hot : HotAt A x1 s.heap) (ht : IsTup s.heap t items) (hn : targets.length = items.size) (hstar : targets.findIdx? (·.1) = none)
    (h : ∀ h', (∀ b o, s.heap.get? b = some o → h'.get? b = some o) → wpAny (model prog w) A (assignInOrder (targets.map (·.2)) items.toList) Q E { s with heap := h' }) : wpAny (model prog w) A (unpack (.ref t) targets) Q E s := by
  have hlt : t ≠ s.heap.objs.size := by obtain ⟨o, ho, _⟩ := ht; exact Nat.ne_of_lt (Heap.lt_size ho)
  obtain ⟨hh, o1, vs1, h1, d1, c1⟩ := hot
  have hx1 : x1 ≠ s.heap.objs.size := Nat.ne_of_lt (Heap.lt_size h1)
  unfold unpack
  rw [hn, hstar]
  refine wpAny_bind (wpAny_holding ?_)
  unfold unpackItems notIterableAtAll
  refine wpAny_bind (wpAny_bind (wpAny_specialOf ht.typeIs slot_tuple_iter.lookup (wpAny_pure ?_)))
  simp only [Bool.false_eq_true, if_false]
  refine wpAny_bind (wpAny_holding (iter_tuple ht ?_))
  refine wpAny_bind (wpAny_holding (draw_tuple hlt items.size 0 _ _ ⟨_, Heap.get?_push_size _ rfl, rfl, rfl⟩ (ht.push _) (by omega) fun h₁ hit₁ hs₁ => ?_))
  have all : List.take items.size (List.drop 0 items.toList) = items.toList := by
    rw [List.drop_zero]
    exact List.take_of_length_le (by simp)
  rw [all, if_neg (by simp)]
  have ht₁ : IsTup h₁ t items := (ht.push _).extBut hs₁.extBut hlt
  refine wpAny_bind (wpAny_holding (tuple_end_hot (s := { s with heap := h₁ }) ⟨hh, o1, vs1, hs₁.extBut _ _ hx1 (Heap.get?_push_of_some _ h1), d1, c1⟩ hx1 hit₁ ht₁ (by simp) fun h₂ he₂ => ?_))
  simp only [Option.isSome_none, Bool.false_eq_true, if_false]
  refine wpAny_pure (h h₂ fun b o e => ?_)
  have hb : b ≠ s.heap.objs.size := Nat.ne_of_lt (Heap.lt_size e)
  exact he₂ b o hb (hs₁.extBut b o hb (Heap.get?_push_of_some _ e))
end
section
variable {X : Cx}
theorem pg_tupH {es : List Expr} {k : Nat} {t : TGs} {n : Nat} {pos : Pos} (hc : HotC X) (h : PGs X es t)
    (hn : (assignEach es X.env).length = n := by rfl) (hst : (assignEach es X.env).findIdx? (·.1) = none := by rfl) : PG X (.Tuple es k pos) (gTup X.K n t) := by
  refine ⟨fun pins s σ H v u Q I r hw => ?_⟩
  obtain ⟨a, xs, rfl, hq, hl, hw⟩ := hw
  cases r
  obtain ⟨its, rv, ht, hz⟩ := I.tuple hq
  obtain ⟨x1, hot⟩ := hc.at I
  rw [assign_Tuple]
  refine wpAny_bind (wpAny_standAt (unpack_hot hot ht (by simp [hn, ← hl, rv.length]) hst fun h' hx => ?_))
  exact h.run pins _ σ H xs _ Q (I.kept (t' := s.toks) hx) (by simpa using rv) hw
end
end Lw

/-! ## Fx14 -/
set_option maxHeartbeats 4000000
/-! defs called while an exception is handled: str() and repr() of an instance there -/
namespace Lw
open PySem PySem.Spec PyProof.Rows L2 L2H
section
variable {P : Program} {w : World} {K : PySem.W.Frag} {mg : Str → Option Value} {base : Heap} {k : Nat} {f : Addr} {fd : FuncData} {ps : List Str} {sp : Sp}
/-- a def of the text, by its body, an exception handled -/
theorem okHt {x qual : Str} {st : Stmt} {N : List Str} (F : Fun K x qual st f fd) (S : FnScope N ps (defScope st)) (len : ∀ vs H Q E, sp vs H Q E → vs.length = ps.length)
    (hbody : ∀ (cdv : Value) (A : Around) (outer : List Env) (s : Shared) (H : Hp) (vs : List V) (Q : VK) (E : XK) (p : Addr × Obj), HotC (cxH CX0 P w K mg base N qual (defScope st) f cdv A outer s H E p) → RoomH k (A.deeper (envOfC qual (defScope st) s.heap.objs.size f cdv)) → sp vs H Q E →
      ∃ t, PSs (cxH CX0 P w K mg base N qual (defScope st) f cdv A outer s H E p).nox (defBody st) t ∧ t { nx := fun _ H' => Q .non H', rt := Q } (L2.start N vs) H) : FnH P w K mg base CX0 (k + 1) f fd ps sp := by
  obtain ⟨oc, od, kV, doc, pm, an, cdv, ct, osl, rfl, lk, hcd⟩ := F.ex
  refine fn_ofH (CX := CX0) lk hcd S len fun A outer s H vs Q E p hot hr hsp => ?_
  obtain ⟨t, ht, hq⟩ := hbody cdv A outer s H vs Q E p ⟨p, hot, List.mem_cons_self⟩ hr hsp
  exact ⟨t, ht.nox, hq⟩
end
structure CalH (P : Program) (w : World) (K : PySem.W.Frag) (mg : Str → Option Value) (base : Heap) (k : Nat) (x : Str) (ps : List Str) (sp : Sp) : Prop where
  ex : ∃ (f : Addr) (fd : FuncData), FnH P w K mg base CX0 k f fd ps sp ∧ mg x = some (.ref f) ∧ PySem.W.keepIn K (.ref f) = true ∧ (∀ us : List Value, us.length = ps.length → bindArgs fd ⟨us, []⟩ = pure (ps.zip us))
structure MtH (P : Program) (w : World) (K : PySem.W.Frag) (mg : Str → Option Value) (base : Heap) (k : Nat) (C : Addr) (m : Str) (ps : List Str) (sp : Sp) : Prop where
  ex : ∃ (f : Addr) (fd : FuncData), FnH P w K mg base CX0 k f fd ps sp ∧ Meth K C m f ∧ (∀ us : List Value, us.length = ps.length → bindArgs fd ⟨us, []⟩ = pure (ps.zip us))
section
variable {X : Cx} {k j : Nat} {C : Addr} {x m : Str} {ps : List Str} {sp : Sp} {p pos : Pos} {e : Expr} {es : List Expr} {t : TA}
theorem pin_of {pins : List (Addr × Obj)} {σ : L2.St} {H : Hp} {s : Shared} (hc : HotC X) (I : Inv X pins σ H s) : ∃ p : Addr × Obj, Hot1 X.A p ∧ PinOk X.stack H s p := by
  obtain ⟨p, hot, hp⟩ := hc
  have P1 := I.pin p (List.mem_append_left _ hp)
  exact ⟨p, hot, P1.1, P1.2.1, fun hm => (List.mem_cons.mp (I.stkSub p.1 hm)).elim P1.2.2.1 P1.2.2.2.1, P1.2.2.2.2⟩
theorem run_h {A : Around} {f : Addr} {fd : FuncData} {args : Args} {us : List Value} {vs : List V} {pins : List (Addr × Obj)} {σ : L2.St} {H : Hp} {s : Shared} {Q : VK} (F : FnH X.prog X.w X.K X.mg X.base CX0 k f fd ps sp) (hr : RoomH k A) (hf : A.frames = X.A.frames) (hh : A.handled = X.A.handled) (hc : HotC X)
    (b : bindArgs fd args = pure (ps.zip us)) (I : Inv X pins σ H s) (r : Vals vs us) (h : sp vs H Q E0) :
    codeAny (model X.prog X.w) A (.call (.ref f) args) (fun r s' => match r with | .ok (.ret u) => EP X pins σ Q u s' | .ok _ => False | .error e => X.xe e s') s := by
  obtain ⟨p, ⟨h1, h2⟩, hp⟩ := pin_of hc I
  have e0 : Env0 X.prog X.w X.K X.mg X.base A X.stack s H := by
    have e := I.env0
    exact ⟨by rw [hf]; exact e.frames, e.mod, e.bs, e.bsz, e.funs, e.frf, e.hok, e.bare⟩
  refine codeAny_mono (F.run A X.stack s H args us vs Q E0 p hr ⟨hh.trans h1, h2⟩ hp e0 (.of_eq b) r h) fun r s' hq => ?_
  cases r with
  | error e => exact False.elim hq
  | ok fl =>
    cases fl with
    | ret u => exact I.after hq
    | next => exact hq
    | brk => exact hq
    | cont => exact hq
theorem pe_ch (c : CalH X.prog X.w X.K X.mg X.base k x ps sp) (hr : RoomH j X.A) (hc : HotC X) (hk : k ≤ j) (hg : Gl X x) (ha : PA X (e :: es) t)
    (hdb : (x == ("__debug__" : Str)) = false := by decide) (he : starEach (e :: es) X.env = (false, eval e X.env) :: starEach es X.env := by rfl) (hpl : (backTo pos (starEach es X.env)).any (·.1) = false := by rfl) :
    PE X (.Call (.Name x p) (e :: es) [] pos) (tCall sp [] E0 t) := by
  obtain ⟨f, fd, F, hm, kp, b⟩ := c.ex
  refine ⟨fun pins s σ H Q I h => ?_⟩
  refine wpAny_Call_Name_kw (ld_glob I hg hm ?_ hdb)
  refine PySem.W.callWith_K (h₀ := X.base) I.ok.mod.kin kp (thn (ha.run pos pins s σ H _ I h) fun us s1 ⟨vs, H1, I1, r, q⟩ => ⟨I1.kIn, ?_⟩) he hpl
  have q : sp vs H1 Q E0 := by
    have q' : sp (vs ++ []) H1 Q E0 := q
    rwa [List.append_nil] at q'
  show wpAny _ _ (call (.ref f) us) _ _ _
  exact wpAny_call (codeAny_mono (run_h F (hr.mono hk) rfl rfl hc (b us (by rw [← r.length]; exact F.len _ _ _ _ q)) I1 r q) fun r s' z => by
    rcases r with e | (v | _ | _ | _) <;> exact z)
end
end Lw

/-! ## Fx15 -/
set_option maxHeartbeats 4000000
/-! str and repr of instances, alone, in a list, in a tuple, while an exception is handled -/
namespace Lw
open PySem PySem.Spec PyProof.Rows L2 L2H
theorem lp_handled {A : Around} {a P : Addr} {i n : Int} : (A.under (lpC a P i n)).handled = A.handled := by
  first | rfl | simp [Around.under]
theorem tp_handled {A : Around} {a : Addr} : (A.under (tpC a)).handled = A.handled := by
  first | rfl | simp [Around.under]
section
variable {X : Cx} {k j : Nat} {C : Addr} {x m : Str} {ps : List Str} {sp : Sp} {p pos apos : Pos} {o e : Expr} {es : List Expr} {ta : TE} {t : TA}
/-- repr(a) by the own __repr__ -/
theorem call_reprH (M : MtH X.prog X.w X.K X.mg X.base k C "__repr__" ps sp) (hr : RoomH j X.A) (hc : HotC X) (hk : k + 1 ≤ j) : CallR X (.builtin "repr") (rStrO C sp) := by
  obtain ⟨f, fd, F, hm, b⟩ := M.ex
  intro pins s σ H xs us Q I r hq
  obtain ⟨a, rfl, ha, h⟩ := hq
  obtain ⟨u, rfl, rx⟩ := vals1 r
  cases rx
  obtain ⟨ox, od, J⟩ := is_inst I ha
  obtain ⟨m, hF⟩ := I.fr
  have hr1 : RoomH k X.A.in1 := RoomHin1 (hr.mono hk)
  refine PySem.W.repr_K (RoomHunits hr1) hF I.ok.mod.kin J hm.at_ hm.fn (wpAny_call (codeAny_mono (run_h (vs := [V.ref a]) (us := [Value.ref a]) F hr1 rfl rfl hc (b _ (F.len _ _ _ _ h)) I (.cons rfl .nil) h) fun r s' z => ?_))
  cases r with
  | error e => exact z
  | ok fl =>
    cases fl with
    | ret v =>
      obtain ⟨y, H', I', ry, ⟨zz, rfl⟩, q⟩ := z
      obtain ⟨t, rfl⟩ := ry
      exact ⟨V.str zz, H', I', ⟨t, rfl⟩, q⟩
    | next => exact z
    | brk => exact z
    | cont => exact z
open PySem.Builtin PySem.Builtin.Str in
/-- str(a) by the own __str__ -/
theorem call_strH (M : MtH X.prog X.w X.K X.mg X.base k C "__str__" ps sp) (hr : RoomH j X.A) (hc : HotC X) (hk : k + 4 ≤ j) : CallR X (.type "str") (rStrO C sp) := by
  obtain ⟨f, fd, F, hm, b⟩ := M.ex
  intro pins s σ H xs us Q I r hq
  obtain ⟨a, rfl, ha, h⟩ := hq
  obtain ⟨u, rfl, rx⟩ := vals1 r
  cases rx
  obtain ⟨ox, od, J⟩ := is_inst I ha
  have hr4 : RoomH (k + 4) X.A := hr.mono hk
  have hr2 : RoomH (k + 2) X.A.in1.in1 := RoomHin1 (RoomHin1 hr4)
  have hr3 : RoomH k X.A.in1.in1 := hr2.mono (by omega)
  have XK := I.kIn
  refine PySem.callType_codes (T := "str") (Bi := Builtin.«object.__init__») (Q₁ := fun r s₁ => ∃ y u, r = .str y u ∧ EP X pins σ Q r s₁) PySem.F.called_str (PySem.F.typeCall_str_1 _) PySem.F.entry_object_init ?_ ?_
  · refine codeAny_of_tree ?_
    show wpAny _ X.A.in1.in1 (do checkBuiltinCall "str.__new__" ⟨[.type "str", .ref a], []⟩; again (.builtin "str.__new__" ⟨[.type "str", .ref a], []⟩)) _ _ s
    refine wpAny_bind (wpAny_of_eq (PySem.F.newCall_str_1 _) (wpAny_pure ⟨plainId_quiet (by decide +kernel) _, codeAny_builtin PySem.F.entry_str_new ?_⟩))
    rw [Around.under_plainId (by decide +kernel) _]
    rw [str_new_tree]
    refine wpAny_bind (wpAny_pure ?_)
    refine wpAny_bind (wpAny_of_eq isSubtype_str_str ?_)
    have key : wpAny (model X.prog X.w) X.A.in1.in1 (PySem.Builtin.Str.strOf (.ref a)) (fun r s₁ => ∃ y u, r = .str y u ∧ EP X pins σ Q r s₁) X.xe s := by
      unfold PySem.Builtin.Str.strOf
      rw [show isExactStr (.ref a) = false from rfl]
      refine wpAny_bind (m := cRoomFor _ _) (wpAny_cRoomFor (RoomHunits hr3) ?_)
      refine wpAny_bind (m := callSpecial? (.ref a) (Str.ofString "__str__")) (PySem.W.special_fn XK J hm.at_ (beq_iff_eq.mp hm.fn) ?_)
      refine wpAny_call (codeAny_mono (run_h (vs := [V.ref a]) (us := [Value.ref a]) F hr3 rfl rfl hc (b _ (F.len _ _ _ _ h)) I (.cons rfl .nil) h) fun r s' z => ?_)
      cases r with
      | error e => exact z
      | ok fl =>
        cases fl with
        | ret v =>
          obtain ⟨y, H', I', ry, ⟨zz, rfl⟩, q⟩ := z
          obtain ⟨t, rfl⟩ := ry
          exact wpAny_pure ⟨zz, t, rfl, V.str zz, H', I', ⟨t, rfl⟩, q⟩
        | next => exact z
        | brk => exact z
        | cont => exact z
    exact wpAny_bind (wpAny_mono key (fun r s₁ hr => wpAny_pure hr) fun _ _ y => y)
  · rintro obj s₁ ⟨y, u, rfl, hq⟩
    exact ⟨typeIs_str _ _ _, PySem.F.args_object_init_2 _ _, object_init_meets PySem.F.called_str.init.lookup PySem.F.called_str.made (by decide) X.prog X.w X.A.in1 _ s₁ ⟨typeIs_str _ _ _, rfl, hq⟩⟩
end
theorem call_repr1H {X : Cx} {k j : Nat} {C : Addr} {ps : List Str} {sp : Sp} (M : MtH X.prog X.w X.K X.mg X.base k C "__repr__" ps sp) (hg : X.A.guards = some []) (hr : RoomH j X.A) (hot : HotC X) (hk : k + 4 ≤ j) : CallR X (.builtin "repr") (rRepr1 C sp) := by
  obtain ⟨f, fd, F, hm, b⟩ := M.ex
  intro pins s σ H xs us Q I r hq
  obtain ⟨a, x, rfl, hl, hx, h⟩ := hq
  obtain ⟨u, rfl, rx⟩ := vals1 r
  cases rx
  obtain ⟨ox, od, J⟩ := is_inst I hx
  obtain ⟨its, rv, ⟨⟨cls, dd, data, sl⟩, n, ho, hc, hdn, hd⟩, hlen⟩ := I.list (.inl (.inl hl))
  simp only at hc hd
  subst hc hd
  obtain ⟨u, rfl⟩ : ∃ u, its = [u] := by
    have := rv.length
    match its, this with
    | [u], _ => exact ⟨u, rfl⟩
  cases rv with
  | cons ru _ =>
    cases ru
    have hr1 : RoomH (k + 3) X.A.in1 := RoomHin1 (hr.mono (show k + 3 + 1 ≤ j by omega))
    refine call_repr_slot (RoomHunits hr1) ⟨_, ho, rfl⟩ PySem.F.slot_list_repr.toG ?_
    refine wpAny_call (codeAny_call_builtin PySem.F.slot_list_repr.plain PySem.F.entry_list_repr (PySem.F.slot_list_repr.check _ _ _ _ _ _ _ _ ⟨_, ho, rfl⟩ (PySem.F.args_list_repr_1 _) ?_))
    refine wpAny_list_repr_head (A := X.A.in1.in1) hg (fun v rest kw hm => nomatch hm) ho rfl ?_
    refine wpAny_bind (m := newList []) (wpAny_newObj_type ?_)
    refine wpAny_pure ⟨PySem.F.quiet_list_repr_loop _, ?_⟩
    have kp : ∀ b o, s.heap.get? b = some o → (s.heap.push ({ cls := .type "list", data := .seq [].toArray } : Obj)).get? b = some o := fun b o e => Heap.get?_push_of_some _ e
    have I1 : Inv X pins σ H { s with heap := s.heap.push ({ cls := .type "list", data := .seq [].toArray } : Obj) } := I.kept (t' := s.toks) kp
    have gP : (s.heap.push ({ cls := .type "list", data := .seq [].toArray } : Obj)).get? s.heap.objs.size = some ({ cls := .type "list", data := .seq [].toArray } : Obj) := Heap.get?_push_size _ rfl
    have nP : H s.heap.objs.size = none := I.hok.fresh (Nat.le_refl _)
    have fP : s.heap.objs.size ∉ frs X.stack := fun z => by
      rcases List.mem_cons.mp (I.stkSub _ z) with e | e
      · have h1 := I.lt
        rw [← e] at h1
        exact Nat.lt_irrefl _ h1
      · exact I.nofs (Nat.le_refl _) e
    have neP : a ≠ s.heap.objs.size := Nat.ne_of_lt (Heap.lt_size ho)
    obtain ⟨ox1, od1, J1⟩ := is_inst I1 hx
    have ho1 := kp _ _ ho
    generalize hs1 : ({ s with heap := s.heap.push ({ cls := .type "list", data := .seq [].toArray } : Obj) } : Shared) = s1 at I1 J1 ⊢
    have gP1 : s1.heap.get? s.heap.objs.size = some ({ cls := .type "list", data := .seq [].toArray } : Obj) := by rw [← hs1]; exact gP
    have ho2 : s1.heap.get? a = some ({ cls := .type "list", dict := dd, data := .seq [Value.ref x].toArray n, slots := sl } : Obj) := by rw [← hs1]; exact ho1
    have kp1 : ∀ b o, s.heap.get? b = some o → s1.heap.get? b = some o := fun b o e => by rw [← hs1]; exact kp b o e
    have os1 : s1.os = s.os := by rw [← hs1]
    refine codeAny_builtin PySem.F.entry_list_repr_loop ?_
    show wpAny _ (X.A.in1.under (lpC a s.heap.objs.size 0 0)) (Builtin.«list.__repr__.loop» ⟨[.ref a, .int 0 0, .ref s.heap.objs.size, .int 0 0], []⟩) _ _ _
    rw [PySem.repr_loop_tree]
    refine wpAny_bind (wpAny_listItems ho2 rfl ?_)
    have hr2 : RoomH (k + 2) (X.A.in1.under (lpC a s.heap.objs.size 0 0)) := lp_room hr1
    obtain ⟨p, ⟨hp1, hp2⟩, hpin⟩ := pin_of hot I1
    refine wpAny_bind (wpAny_holding (own_under (base := 1) (by decide) (RoomHunits hr2) I1.kIn J1 hm.at_ hm.fn (wpAny_call (codeAny_mono (F.run _ X.stack s1 H ⟨[.ref x], []⟩ [.ref x] [.ref x] _ E0 p (hr2.mono (by omega)) ⟨(lp_handled (A := X.A.in1)).trans hp1, hp2⟩ hpin ?_ (.of_eq (b _ (F.len _ _ _ _ h))) (.cons rfl .nil) h) fun r s2 hq => ?_))))
    · have e := I1.env0
      exact ⟨(lp_frames (A := X.A.in1)).trans e.frames, e.mod, e.bs, e.bsz, e.funs, e.frf, e.hok, e.bare⟩
    · cases r with
      | error e => exact False.elim hq
      | ok fl =>
        cases fl with
        | ret u =>
          obtain ⟨v, H', os2, bare2, un2, hok2, rv, z, rfl, hz, hl', q⟩ := hq
          obtain ⟨t, rfl⟩ := rv
          refine ⟨z, t, rfl, ?_⟩
          have no : ∀ b : Addr, b ∉ ([] : List Addr) := fun b z => nomatch z
          have gP2 := un2.keep _ _ gP1 nP fP (no _)
          have hz2 : z.length ≤ sizeLine := Nat.le_trans hz (by decide)
          obtain ⟨_, its2, n2, rv2, ho3⟩ := (show ObjOk X.prog X.w H' s2.heap a (.lst [.ref x]) from hok2 a _ hl')
          obtain ⟨u2, rfl⟩ : ∃ u, its2 = [u] := by
            have := rv2.length
            match its2, this with
            | [u], _ => exact ⟨u, rfl⟩
          refine wpAny_bind (wpAny_mkStr ?_ hz2)
          refine wpAny_bind ?_
          show wpAny _ _ (updateSeq s.heap.objs.size _) _ _ _
          refine wpAny_updateSeq (o := { cls := .type "list", data := .seq [].toArray }) gP2 rfl (wpAny_pure ⟨PySem.F.quiet_list_repr_loop _, ?_⟩) (by decide)
          have lt2 : ∀ b o, s.heap.get? b = some o → b ≠ s.heap.objs.size := fun b o e => Nat.ne_of_lt (Heap.lt_size e)
          have off : ∀ {fn : Obj → Obj} (b : Addr), b ≠ s.heap.objs.size → (s2.heap.update s.heap.objs.size fn).get? b = s2.heap.get? b := fun b hb => Heap.get?_update_other _ _ (Ne.symm hb)
          have gP3 := Heap.get?_update_self (Obj.mapSeq (·.push (Value.str z s2.toks))) gP2 rfl
          refine codeAny_builtin PySem.F.entry_list_repr_loop ?_
          show wpAny _ _ (Builtin.«list.__repr__.loop» ⟨[.ref a, .int 1 0, .ref s.heap.objs.size, .int _ 0], []⟩) _ _ _
          rw [PySem.repr_loop_tree]
          refine wpAny_bind (wpAny_listItems ((off a neP).trans ho3) rfl ?_)
          show wpAny _ _ (PySem.reprEnd (.ref s.heap.objs.size)) _ _ _
          unfold PySem.reprEnd
          refine wpAny_bind (wpAny_listItems gP3 rfl ?_)
          rw [show (([].toArray : Array Value).push (Value.str z s2.toks)).toList = strValues [(z, s2.toks)] from rfl, PySem.repr_fold]
          refine wpAny_bind (wpAny_pure ?_)
          refine wpAny_bind (wpAny_mkStr (wpAny_pure ?_) ?_)
          · refine ⟨_, _, rfl, I.after ⟨.str (listText [z]), H', os2.trans os1, bare2, ⟨fun b o e n hf hx => ?_, fun b o e n hf hx => ?_, fun b o e n hx => un2.free b o (kp1 b o e) n hx, fun b o e hx => ?_, un2.tups, un2.frzs, un2.tbls⟩, fun b o e => ?_, ⟨_, rfl⟩, q⟩⟩
            · exact (off b (lt2 b o e)).trans (un2.keep b o (kp1 b o e) n hf hx)
            · obtain ⟨sl2, e2⟩ := un2.slot b o (kp1 b o e) n hf hx
              exact ⟨sl2, (off b (lt2 b o e)).trans e2⟩
            · obtain ⟨o2, e2⟩ := un2.there b o (kp1 b o e) hx
              exact ⟨o2, (off b (lt2 b o e)).trans e2⟩
            · have nP2 : H' s.heap.objs.size = none := un2.free _ _ gP1 nP (no _)
              refine (hok2 b o e).stay (fun c v hc y => (off c ?_).trans y) (fun _ y => y) fun _ _ y => y
              intro ec
              subst ec
              rcases hc with hc | hc
              · rw [← hc, nP2] at e
                cases e
              · rw [nP2] at hc
                cases hc
          · have el : (listText [z]).length = z.length + 2 := by
              show (((("[" : Str) ++ ((if 0 > 0 then ", " else "" : String) : Str)) ++ z) ++ ("]" : Str)).length = _
              rw [strLen_append, strLen_append, strLen_append]
              show 1 + 0 + z.length + 1 = _
              omega
            show (listText [z]).length ≤ sizeLine
            rw [el]
            exact Nat.le_trans (show z.length + 2 ≤ 1000002 by omega) (by decide)
        | next => exact False.elim hq
        | brk => exact False.elim hq
        | cont => exact False.elim hq
theorem call_repr1TH {X : Cx} {k j : Nat} {C : Addr} {ps : List Str} {sp : Sp} (M : MtH X.prog X.w X.K X.mg X.base k C "__repr__" ps sp) (hg : X.A.guards = some []) (hr : RoomH j X.A) (hot : HotC X) (hk : k + 4 ≤ j) : CallR X (.builtin "repr") (rRepr1T C sp) := by
  obtain ⟨f, fd, F, hm, b⟩ := M.ex
  intro pins s σ H xs us Q I r hq
  obtain ⟨a, x, rfl, hl, hx, h⟩ := hq
  obtain ⟨u, rfl, rx⟩ := vals1 r
  cases rx
  obtain ⟨ox, od, J⟩ := is_inst I hx
  obtain ⟨_, its, rv, o, ho, hc, n, hd⟩ := (show ObjOk X.prog X.w H s.heap a (.tup [.ref x]) from I.hok a _ hl)
  obtain ⟨u, rfl⟩ : ∃ u, its = [u] := by
    have := rv.length
    match its, this with
    | [u], _ => exact ⟨u, rfl⟩
  cases rv with
  | cons ru _ =>
    cases ru
    have hr1 : RoomH (k + 3) X.A.in1 := RoomHin1 (hr.mono (show k + 3 + 1 ≤ j by omega))
    have hr2 : RoomH (k + 2) (X.A.in1.under (tpC a)) := tp_room hr1
    refine call_repr_slot (RoomHunits hr1) ⟨_, ho, hc⟩ PySem.F.slot_tuple_repr ?_
    refine wpAny_call (codeAny_call_builtin_own (Code.quiet_builtin _ (by decide +kernel)) PySem.F.entry_tuple_repr (PySem.F.slot_tuple_repr.check _ _ _ _ _ _ _ _ ⟨_, ho, hc⟩ (PySem.F.args_tuple_repr_1 _) ?_))
    show wpOwn (model X.prog X.w) X.A.in1 (tpC a) (Builtin.tupleReprAt 0 ⟨[.ref a], []⟩) _ _ s
    rw [PySem.tuple_repr_tree, PySem.tupleReprUnderWay_eq]
    refine wpOwn_bind (PySem.wpOwn_stackTailAny (g := []) hg (PySem.tupGuardF_off _) (PySem.tupGuardF_pos _) ?_)
    refine wpOwn_of_wpAny ?_
    show wpAny _ _ (PySem.tupleReprRest 0 (.ref a)) _ _ s
    unfold PySem.tupleReprRest Builtin.Tuple.tupleItemsOf
    refine wpAny_bind (wpAny_bind (wpAny_seqItems ho hd (wpAny_pure ?_)))
    rw [← Array.forIn_toList]
    show wpAny _ _ (forIn [Value.ref x] _ PySem.tupBody >>= _) _ _ s
    rw [List.forIn_cons]
    obtain ⟨p, ⟨hp1, hp2⟩, hpin⟩ := pin_of hot I
    refine wpAny_bind (wpAny_bind (wpAny_bind (own_under (base := 1) (by decide) (RoomHunits hr2) I.kIn J hm.at_ hm.fn (wpAny_call (codeAny_mono (F.run _ X.stack s H ⟨[.ref x], []⟩ [.ref x] [.ref x] _ E0 p (hr2.mono (by omega)) ⟨(tp_handled (A := X.A.in1)).trans hp1, hp2⟩ hpin ?_ (.of_eq (b _ (F.len _ _ _ _ h))) (.cons rfl .nil) h) fun r s2 hq => ?_)))))
    · have e := I.env0
      exact ⟨(tp_frames (A := X.A.in1)).trans e.frames, e.mod, e.bs, e.bsz, e.funs, e.frf, e.hok, e.bare⟩
    · cases r with
      | error e => exact False.elim hq
      | ok fl =>
        cases fl with
        | ret u =>
          obtain ⟨v, H', os2, bare2, un2, hok2, rv, z, rfl, hz, q⟩ := hq
          obtain ⟨t, rfl⟩ := rv
          refine ⟨z, t, rfl, wpAny_pure ?_⟩
          show wpAny _ _ (forIn [] _ PySem.tupBody) _ _ s2
          rw [List.forIn_nil]
          refine wpAny_pure ?_
          have ez : tupleText [z] = ("(" : Str) ++ Str.join ", " [z] ++ (",)" : Str) := rfl
          have el : (tupleText [z]).length = z.length + 3 := by
            rw [ez, strLen_append, strLen_append]
            show 1 + z.length + 2 = _
            omega
          have hz2 : (tupleText [z]).length ≤ sizeLine := by
            rw [el]
            exact Nat.le_trans (show z.length + 3 ≤ 1000003 by omega) (by decide)
          obtain ⟨v', H3, I3, r3, q3⟩ := I.after (Q := fun v H' => v = .str (tupleText [z]) ∧ Q v H') (u := Value.str (tupleText [z]) s2.toks) ⟨.str (tupleText [z]), H', os2, bare2, un2, hok2, ⟨_, rfl⟩, rfl, q⟩
          obtain ⟨rfl, q4⟩ := q3
          refine wpAny_bind (wpAny_mkStr (x := tupleText [z]) (wpAny_pure ?_) hz2)
          exact ⟨_, _, rfl, _, H3, I3.tok _, r3, q4⟩
        | next => exact False.elim hq
        | brk => exact False.elim hq
        | cont => exact False.elim hq
end Lw

/-! ## Fx16 -/
set_option maxHeartbeats 4000000
/-! the same where nothing is handled and guards may be set -/
namespace Lw
open PySem PySem.Spec PyProof.Rows L2 L2H
structure CalK (P : Program) (w : World) (K : PySem.W.Frag) (mg : Str → Option Value) (base : Heap) (k : Nat) (x : Str) (ps : List Str) (sp : Sp) : Prop where
  ex : ∃ (f : Addr) (fd : FuncData), FnOk P w K mg base CX0 k f fd ps sp ∧ mg x = some (.ref f) ∧ PySem.W.keepIn K (.ref f) = true ∧ (∀ us : List Value, us.length = ps.length → bindArgs fd ⟨us, []⟩ = pure (ps.zip us))
structure MtK (P : Program) (w : World) (K : PySem.W.Frag) (mg : Str → Option Value) (base : Heap) (k : Nat) (C : Addr) (m : Str) (ps : List Str) (sp : Sp) : Prop where
  ex : ∃ (f : Addr) (fd : FuncData), FnOk P w K mg base CX0 k f fd ps sp ∧ Meth K C m f ∧ (∀ us : List Value, us.length = ps.length → bindArgs fd ⟨us, []⟩ = pure (ps.zip us))
theorem lp_roomK {A : Around} {k : Nat} {a P : Addr} {i n : Int} (r : Room (k + 1) A) : Room k (A.under (lpC a P i n)) := by
  have h := lp_room (a := a) (P := P) (i := i) (n := n) (roomH_of r)
  exact ⟨lp_handled.trans r.hd, h.dp, h.un⟩
theorem tp_roomK {A : Around} {k : Nat} {a : Addr} (r : Room (k + 1) A) : Room k (A.under (tpC a)) := by
  have h := tp_room (a := a) (roomH_of r)
  exact ⟨tp_handled.trans r.hd, h.dp, h.un⟩
section
variable {X : Cx} {k j : Nat} {C : Addr} {x m : Str} {ps : List Str} {sp : Sp} {p pos apos : Pos} {o e : Expr} {es : List Expr} {ta : TE} {t : TA}
theorem run_k {A : Around} {f : Addr} {fd : FuncData} {args : Args} {us : List Value} {vs : List V} {pins : List (Addr × Obj)} {σ : L2.St} {H : Hp} {s : Shared} {Q : VK} (F : FnOk X.prog X.w X.K X.mg X.base CX0 k f fd ps sp) (hr : Room k A) (hf : A.frames = X.A.frames)
    (b : bindArgs fd args = pure (ps.zip us)) (I : Inv X pins σ H s) (r : Vals vs us) (h : sp vs H Q E0) :
    codeAny (model X.prog X.w) A (.call (.ref f) args) (fun r s' => match r with | .ok (.ret u) => EP X pins σ Q u s' | .ok _ => False | .error e => X.xe e s') s := by
  have e0 : Env0 X.prog X.w X.K X.mg X.base A X.stack s H := by
    have e := I.env0
    exact ⟨by rw [hf]; exact e.frames, e.mod, e.bs, e.bsz, e.funs, e.frf, e.hok, e.bare⟩
  refine codeAny_mono (F.run A X.stack s H args us vs Q E0 hr e0 (.of_eq b) r h) fun r s' hq => ?_
  cases r with
  | error e => exact False.elim hq
  | ok fl =>
    cases fl with
    | ret u => exact I.after hq
    | next => exact hq
    | brk => exact hq
    | cont => exact hq
theorem pe_ck1 (c : CalK X.prog X.w X.K X.mg X.base k x ps sp) (hr : Room j X.A) (hk : k ≤ j) (hg : Gl X x) (ha : PA X (e :: es) t)
    (hdb : (x == ("__debug__" : Str)) = false := by decide) (he : starEach (e :: es) X.env = (false, eval e X.env) :: starEach es X.env := by rfl) (hpl : (backTo pos (starEach es X.env)).any (·.1) = false := by rfl) :
    PE X (.Call (.Name x p) (e :: es) [] pos) (tCall sp [] E0 t) := by
  obtain ⟨f, fd, F, hm, kp, b⟩ := c.ex
  refine ⟨fun pins s σ H Q I h => ?_⟩
  refine wpAny_Call_Name_kw (ld_glob I hg hm ?_ hdb)
  refine PySem.W.callWith_K (h₀ := X.base) I.ok.mod.kin kp (thn (ha.run pos pins s σ H _ I h) fun us s1 ⟨vs, H1, I1, r, q⟩ => ⟨I1.kIn, ?_⟩) he hpl
  have q : sp vs H1 Q E0 := by
    have q' : sp (vs ++ []) H1 Q E0 := q
    rwa [List.append_nil] at q'
  show wpAny _ _ (call (.ref f) us) _ _ _
  exact wpAny_call (codeAny_mono (run_k F (hr.mono hk) rfl (b us (by rw [← r.length]; exact F.len _ _ _ _ q)) I1 r q) fun r s' z => by
    rcases r with e | (v | _ | _ | _) <;> exact z)
/-- repr(a) by the own __repr__ -/
theorem call_reprK (M : MtK X.prog X.w X.K X.mg X.base k C "__repr__" ps sp) (hr : Room j X.A) (hk : k + 1 ≤ j) : CallR X (.builtin "repr") (rStrO C sp) := by
  obtain ⟨f, fd, F, hm, b⟩ := M.ex
  intro pins s σ H xs us Q I r hq
  obtain ⟨a, rfl, ha, h⟩ := hq
  obtain ⟨u, rfl, rx⟩ := vals1 r
  cases rx
  obtain ⟨ox, od, J⟩ := is_inst I ha
  obtain ⟨m, hF⟩ := I.fr
  have hr1 : Room k X.A.in1 := Room.in1 (hr.mono hk)
  refine PySem.W.repr_K (Room.units0 hr1) hF I.ok.mod.kin J hm.at_ hm.fn (wpAny_call (codeAny_mono (run_k (vs := [V.ref a]) (us := [Value.ref a]) F hr1 rfl (b _ (F.len _ _ _ _ h)) I (.cons rfl .nil) h) fun r s' z => ?_))
  cases r with
  | error e => exact z
  | ok fl =>
    cases fl with
    | ret v =>
      obtain ⟨y, H', I', ry, ⟨zz, rfl⟩, q⟩ := z
      obtain ⟨t, rfl⟩ := ry
      exact ⟨V.str zz, H', I', ⟨t, rfl⟩, q⟩
    | next => exact z
    | brk => exact z
    | cont => exact z
open PySem.Builtin PySem.Builtin.Str in
/-- str(a) by the own __str__ -/
theorem call_strK (M : MtK X.prog X.w X.K X.mg X.base k C "__str__" ps sp) (hr : Room j X.A) (hk : k + 4 ≤ j) : CallR X (.type "str") (rStrO C sp) := by
  obtain ⟨f, fd, F, hm, b⟩ := M.ex
  intro pins s σ H xs us Q I r hq
  obtain ⟨a, rfl, ha, h⟩ := hq
  obtain ⟨u, rfl, rx⟩ := vals1 r
  cases rx
  obtain ⟨ox, od, J⟩ := is_inst I ha
  have hr4 : Room (k + 4) X.A := hr.mono hk
  have hr2 : Room (k + 2) X.A.in1.in1 := Room.in1 (Room.in1 hr4)
  have hr3 : Room k X.A.in1.in1 := hr2.mono (by omega)
  have XK := I.kIn
  refine PySem.callType_codes (T := "str") (Bi := Builtin.«object.__init__») (Q₁ := fun r s₁ => ∃ y u, r = .str y u ∧ EP X pins σ Q r s₁) PySem.F.called_str (PySem.F.typeCall_str_1 _) PySem.F.entry_object_init ?_ ?_
  · refine codeAny_of_tree ?_
    show wpAny _ X.A.in1.in1 (do checkBuiltinCall "str.__new__" ⟨[.type "str", .ref a], []⟩; again (.builtin "str.__new__" ⟨[.type "str", .ref a], []⟩)) _ _ s
    refine wpAny_bind (wpAny_of_eq (PySem.F.newCall_str_1 _) (wpAny_pure ⟨plainId_quiet (by decide +kernel) _, codeAny_builtin PySem.F.entry_str_new ?_⟩))
    rw [Around.under_plainId (by decide +kernel) _]
    rw [str_new_tree]
    refine wpAny_bind (wpAny_pure ?_)
    refine wpAny_bind (wpAny_of_eq isSubtype_str_str ?_)
    have key : wpAny (model X.prog X.w) X.A.in1.in1 (PySem.Builtin.Str.strOf (.ref a)) (fun r s₁ => ∃ y u, r = .str y u ∧ EP X pins σ Q r s₁) X.xe s := by
      unfold PySem.Builtin.Str.strOf
      rw [show isExactStr (.ref a) = false from rfl]
      refine wpAny_bind (m := cRoomFor _ _) (wpAny_cRoomFor (Room.units0 hr3) ?_)
      refine wpAny_bind (m := callSpecial? (.ref a) (Str.ofString "__str__")) (PySem.W.special_fn XK J hm.at_ (beq_iff_eq.mp hm.fn) ?_)
      refine wpAny_call (codeAny_mono (run_k (vs := [V.ref a]) (us := [Value.ref a]) F hr3 rfl (b _ (F.len _ _ _ _ h)) I (.cons rfl .nil) h) fun r s' z => ?_)
      cases r with
      | error e => exact z
      | ok fl =>
        cases fl with
        | ret v =>
          obtain ⟨y, H', I', ry, ⟨zz, rfl⟩, q⟩ := z
          obtain ⟨t, rfl⟩ := ry
          exact wpAny_pure ⟨zz, t, rfl, V.str zz, H', I', ⟨t, rfl⟩, q⟩
        | next => exact z
        | brk => exact z
        | cont => exact z
    exact wpAny_bind (wpAny_mono key (fun r s₁ hr => wpAny_pure hr) fun _ _ y => y)
  · rintro obj s₁ ⟨y, u, rfl, hq⟩
    exact ⟨typeIs_str _ _ _, PySem.F.args_object_init_2 _ _, object_init_meets PySem.F.called_str.init.lookup PySem.F.called_str.made (by decide) X.prog X.w X.A.in1 _ s₁ ⟨typeIs_str _ _ _, rfl, hq⟩⟩
end
theorem call_repr1K {X : Cx} {k j : Nat} {C : Addr} {ps : List Str} {sp : Sp} (M : MtK X.prog X.w X.K X.mg X.base k C "__repr__" ps sp) (hg : X.A.guards = some []) (hr : Room j X.A) (hk : k + 4 ≤ j) : CallR X (.builtin "repr") (rRepr1 C sp) := by
  obtain ⟨f, fd, F, hm, b⟩ := M.ex
  intro pins s σ H xs us Q I r hq
  obtain ⟨a, x, rfl, hl, hx, h⟩ := hq
  obtain ⟨u, rfl, rx⟩ := vals1 r
  cases rx
  obtain ⟨ox, od, J⟩ := is_inst I hx
  obtain ⟨its, rv, ⟨⟨cls, dd, data, sl⟩, n, ho, hc, hdn, hd⟩, hlen⟩ := I.list (.inl (.inl hl))
  simp only at hc hd
  subst hc hd
  obtain ⟨u, rfl⟩ : ∃ u, its = [u] := by
    have := rv.length
    match its, this with
    | [u], _ => exact ⟨u, rfl⟩
  cases rv with
  | cons ru _ =>
    cases ru
    have hr1 : Room (k + 3) X.A.in1 := Room.in1 (hr.mono (show k + 3 + 1 ≤ j by omega))
    refine call_repr_slot (Room.units0 hr1) ⟨_, ho, rfl⟩ PySem.F.slot_list_repr.toG ?_
    refine wpAny_call (codeAny_call_builtin PySem.F.slot_list_repr.plain PySem.F.entry_list_repr (PySem.F.slot_list_repr.check _ _ _ _ _ _ _ _ ⟨_, ho, rfl⟩ (PySem.F.args_list_repr_1 _) ?_))
    refine wpAny_list_repr_head (A := X.A.in1.in1) hg (fun v rest kw hm => nomatch hm) ho rfl ?_
    refine wpAny_bind (m := newList []) (wpAny_newObj_type ?_)
    refine wpAny_pure ⟨PySem.F.quiet_list_repr_loop _, ?_⟩
    have kp : ∀ b o, s.heap.get? b = some o → (s.heap.push ({ cls := .type "list", data := .seq [].toArray } : Obj)).get? b = some o := fun b o e => Heap.get?_push_of_some _ e
    have I1 : Inv X pins σ H { s with heap := s.heap.push ({ cls := .type "list", data := .seq [].toArray } : Obj) } := I.kept (t' := s.toks) kp
    have gP : (s.heap.push ({ cls := .type "list", data := .seq [].toArray } : Obj)).get? s.heap.objs.size = some ({ cls := .type "list", data := .seq [].toArray } : Obj) := Heap.get?_push_size _ rfl
    have nP : H s.heap.objs.size = none := I.hok.fresh (Nat.le_refl _)
    have fP : s.heap.objs.size ∉ frs X.stack := fun z => by
      rcases List.mem_cons.mp (I.stkSub _ z) with e | e
      · have h1 := I.lt
        rw [← e] at h1
        exact Nat.lt_irrefl _ h1
      · exact I.nofs (Nat.le_refl _) e
    have neP : a ≠ s.heap.objs.size := Nat.ne_of_lt (Heap.lt_size ho)
    obtain ⟨ox1, od1, J1⟩ := is_inst I1 hx
    have ho1 := kp _ _ ho
    generalize hs1 : ({ s with heap := s.heap.push ({ cls := .type "list", data := .seq [].toArray } : Obj) } : Shared) = s1 at I1 J1 ⊢
    have gP1 : s1.heap.get? s.heap.objs.size = some ({ cls := .type "list", data := .seq [].toArray } : Obj) := by rw [← hs1]; exact gP
    have ho2 : s1.heap.get? a = some ({ cls := .type "list", dict := dd, data := .seq [Value.ref x].toArray n, slots := sl } : Obj) := by rw [← hs1]; exact ho1
    have kp1 : ∀ b o, s.heap.get? b = some o → s1.heap.get? b = some o := fun b o e => by rw [← hs1]; exact kp b o e
    have os1 : s1.os = s.os := by rw [← hs1]
    refine codeAny_builtin PySem.F.entry_list_repr_loop ?_
    show wpAny _ (X.A.in1.under (lpC a s.heap.objs.size 0 0)) (Builtin.«list.__repr__.loop» ⟨[.ref a, .int 0 0, .ref s.heap.objs.size, .int 0 0], []⟩) _ _ _
    rw [PySem.repr_loop_tree]
    refine wpAny_bind (wpAny_listItems ho2 rfl ?_)
    have hr2 : Room (k + 2) (X.A.in1.under (lpC a s.heap.objs.size 0 0)) := lp_roomK hr1
    refine wpAny_bind (wpAny_holding (own_under (base := 1) (by decide) (Room.units0 hr2) I1.kIn J1 hm.at_ hm.fn (wpAny_call (codeAny_mono (F.run _ X.stack s1 H ⟨[.ref x], []⟩ [.ref x] [.ref x] _ E0 (hr2.mono (by omega)) ?_ (.of_eq (b _ (F.len _ _ _ _ h))) (.cons rfl .nil) h) fun r s2 hq => ?_))))
    · have e := I1.env0
      exact ⟨(lp_frames (A := X.A.in1)).trans e.frames, e.mod, e.bs, e.bsz, e.funs, e.frf, e.hok, e.bare⟩
    · cases r with
      | error e => exact False.elim hq
      | ok fl =>
        cases fl with
        | ret u =>
          obtain ⟨v, H', os2, bare2, un2, hok2, rv, z, rfl, hz, hl', q⟩ := hq
          obtain ⟨t, rfl⟩ := rv
          refine ⟨z, t, rfl, ?_⟩
          have no : ∀ b : Addr, b ∉ ([] : List Addr) := fun b z => nomatch z
          have gP2 := un2.keep _ _ gP1 nP fP (no _)
          have hz2 : z.length ≤ sizeLine := Nat.le_trans hz (by decide)
          obtain ⟨_, its2, n2, rv2, ho3⟩ := (show ObjOk X.prog X.w H' s2.heap a (.lst [.ref x]) from hok2 a _ hl')
          obtain ⟨u2, rfl⟩ : ∃ u, its2 = [u] := by
            have := rv2.length
            match its2, this with
            | [u], _ => exact ⟨u, rfl⟩
          refine wpAny_bind (wpAny_mkStr ?_ hz2)
          refine wpAny_bind ?_
          show wpAny _ _ (updateSeq s.heap.objs.size _) _ _ _
          refine wpAny_updateSeq (o := { cls := .type "list", data := .seq [].toArray }) gP2 rfl (wpAny_pure ⟨PySem.F.quiet_list_repr_loop _, ?_⟩) (by decide)
          have lt2 : ∀ b o, s.heap.get? b = some o → b ≠ s.heap.objs.size := fun b o e => Nat.ne_of_lt (Heap.lt_size e)
          have off : ∀ {fn : Obj → Obj} (b : Addr), b ≠ s.heap.objs.size → (s2.heap.update s.heap.objs.size fn).get? b = s2.heap.get? b := fun b hb => Heap.get?_update_other _ _ (Ne.symm hb)
          have gP3 := Heap.get?_update_self (Obj.mapSeq (·.push (Value.str z s2.toks))) gP2 rfl
          refine codeAny_builtin PySem.F.entry_list_repr_loop ?_
          show wpAny _ _ (Builtin.«list.__repr__.loop» ⟨[.ref a, .int 1 0, .ref s.heap.objs.size, .int _ 0], []⟩) _ _ _
          rw [PySem.repr_loop_tree]
          refine wpAny_bind (wpAny_listItems ((off a neP).trans ho3) rfl ?_)
          show wpAny _ _ (PySem.reprEnd (.ref s.heap.objs.size)) _ _ _
          unfold PySem.reprEnd
          refine wpAny_bind (wpAny_listItems gP3 rfl ?_)
          rw [show (([].toArray : Array Value).push (Value.str z s2.toks)).toList = strValues [(z, s2.toks)] from rfl, PySem.repr_fold]
          refine wpAny_bind (wpAny_pure ?_)
          refine wpAny_bind (wpAny_mkStr (wpAny_pure ?_) ?_)
          · refine ⟨_, _, rfl, I.after ⟨.str (listText [z]), H', os2.trans os1, bare2, ⟨fun b o e n hf hx => ?_, fun b o e n hf hx => ?_, fun b o e n hx => un2.free b o (kp1 b o e) n hx, fun b o e hx => ?_, un2.tups, un2.frzs, un2.tbls⟩, fun b o e => ?_, ⟨_, rfl⟩, q⟩⟩
            · exact (off b (lt2 b o e)).trans (un2.keep b o (kp1 b o e) n hf hx)
            · obtain ⟨sl2, e2⟩ := un2.slot b o (kp1 b o e) n hf hx
              exact ⟨sl2, (off b (lt2 b o e)).trans e2⟩
            · obtain ⟨o2, e2⟩ := un2.there b o (kp1 b o e) hx
              exact ⟨o2, (off b (lt2 b o e)).trans e2⟩
            · have nP2 : H' s.heap.objs.size = none := un2.free _ _ gP1 nP (no _)
              refine (hok2 b o e).stay (fun c v hc y => (off c ?_).trans y) (fun _ y => y) fun _ _ y => y
              intro ec
              subst ec
              rcases hc with hc | hc
              · rw [← hc, nP2] at e
                cases e
              · rw [nP2] at hc
                cases hc
          · have el : (listText [z]).length = z.length + 2 := by
              show (((("[" : Str) ++ ((if 0 > 0 then ", " else "" : String) : Str)) ++ z) ++ ("]" : Str)).length = _
              rw [strLen_append, strLen_append, strLen_append]
              show 1 + 0 + z.length + 1 = _
              omega
            show (listText [z]).length ≤ sizeLine
            rw [el]
            exact Nat.le_trans (show z.length + 2 ≤ 1000002 by omega) (by decide)
        | next => exact False.elim hq
        | brk => exact False.elim hq
        | cont => exact False.elim hq
theorem call_repr1TK {X : Cx} {k j : Nat} {C : Addr} {ps : List Str} {sp : Sp} (M : MtK X.prog X.w X.K X.mg X.base k C "__repr__" ps sp) (hg : X.A.guards = some []) (hr : Room j X.A) (hk : k + 4 ≤ j) : CallR X (.builtin "repr") (rRepr1T C sp) := by
  obtain ⟨f, fd, F, hm, b⟩ := M.ex
  intro pins s σ H xs us Q I r hq
  obtain ⟨a, x, rfl, hl, hx, h⟩ := hq
  obtain ⟨u, rfl, rx⟩ := vals1 r
  cases rx
  obtain ⟨ox, od, J⟩ := is_inst I hx
  obtain ⟨_, its, rv, o, ho, hc, n, hd⟩ := (show ObjOk X.prog X.w H s.heap a (.tup [.ref x]) from I.hok a _ hl)
  obtain ⟨u, rfl⟩ : ∃ u, its = [u] := by
    have := rv.length
    match its, this with
    | [u], _ => exact ⟨u, rfl⟩
  cases rv with
  | cons ru _ =>
    cases ru
    have hr1 : Room (k + 3) X.A.in1 := Room.in1 (hr.mono (show k + 3 + 1 ≤ j by omega))
    have hr2 : Room (k + 2) (X.A.in1.under (tpC a)) := tp_roomK hr1
    refine call_repr_slot (Room.units0 hr1) ⟨_, ho, hc⟩ PySem.F.slot_tuple_repr ?_
    refine wpAny_call (codeAny_call_builtin_own (Code.quiet_builtin _ (by decide +kernel)) PySem.F.entry_tuple_repr (PySem.F.slot_tuple_repr.check _ _ _ _ _ _ _ _ ⟨_, ho, hc⟩ (PySem.F.args_tuple_repr_1 _) ?_))
    show wpOwn (model X.prog X.w) X.A.in1 (tpC a) (Builtin.tupleReprAt 0 ⟨[.ref a], []⟩) _ _ s
    rw [PySem.tuple_repr_tree, PySem.tupleReprUnderWay_eq]
    refine wpOwn_bind (PySem.wpOwn_stackTailAny (g := []) hg (PySem.tupGuardF_off _) (PySem.tupGuardF_pos _) ?_)
    refine wpOwn_of_wpAny ?_
    show wpAny _ _ (PySem.tupleReprRest 0 (.ref a)) _ _ s
    unfold PySem.tupleReprRest Builtin.Tuple.tupleItemsOf
    refine wpAny_bind (wpAny_bind (wpAny_seqItems ho hd (wpAny_pure ?_)))
    rw [← Array.forIn_toList]
    show wpAny _ _ (forIn [Value.ref x] _ PySem.tupBody >>= _) _ _ s
    rw [List.forIn_cons]
    refine wpAny_bind (wpAny_bind (wpAny_bind (own_under (base := 1) (by decide) (Room.units0 hr2) I.kIn J hm.at_ hm.fn (wpAny_call (codeAny_mono (F.run _ X.stack s H ⟨[.ref x], []⟩ [.ref x] [.ref x] _ E0 (hr2.mono (by omega)) ?_ (.of_eq (b _ (F.len _ _ _ _ h))) (.cons rfl .nil) h) fun r s2 hq => ?_)))))
    · have e := I.env0
      exact ⟨(tp_frames (A := X.A.in1)).trans e.frames, e.mod, e.bs, e.bsz, e.funs, e.frf, e.hok, e.bare⟩
    · cases r with
      | error e => exact False.elim hq
      | ok fl =>
        cases fl with
        | ret u =>
          obtain ⟨v, H', os2, bare2, un2, hok2, rv, z, rfl, hz, q⟩ := hq
          obtain ⟨t, rfl⟩ := rv
          refine ⟨z, t, rfl, wpAny_pure ?_⟩
          show wpAny _ _ (forIn [] _ PySem.tupBody) _ _ s2
          rw [List.forIn_nil]
          refine wpAny_pure ?_
          have ez : tupleText [z] = ("(" : Str) ++ Str.join ", " [z] ++ (",)" : Str) := rfl
          have el : (tupleText [z]).length = z.length + 3 := by
            rw [ez, strLen_append, strLen_append]
            show 1 + z.length + 2 = _
            omega
          have hz2 : (tupleText [z]).length ≤ sizeLine := by
            rw [el]
            exact Nat.le_trans (show z.length + 3 ≤ 1000003 by omega) (by decide)
          obtain ⟨v', H3, I3, r3, q3⟩ := I.after (Q := fun v H' => v = .str (tupleText [z]) ∧ Q v H') (u := Value.str (tupleText [z]) s2.toks) ⟨.str (tupleText [z]), H', os2, bare2, un2, hok2, ⟨_, rfl⟩, rfl, q⟩
          obtain ⟨rfl, q4⟩ := q3
          refine wpAny_bind (wpAny_mkStr (x := tupleText [z]) (wpAny_pure ?_) hz2)
          exact ⟨_, _, rfl, _, H3, I3.tok _, r3, q4⟩
        | next => exact False.elim hq
        | brk => exact False.elim hq
        | cont => exact False.elim hq
end Lw

/-! ## Fx17 -/
set_option maxHeartbeats 4000000
/-! a def whose code object is told: one that makes lambdas -/
namespace Lw
open PySem PySem.Spec PyProof.Rows L2
structure FunT (K : PySem.W.Frag) (x qual : Str) (st : Stmt) (f : Addr) (fd : FuncData) (c : Addr) : Prop where
  ex : ∃ (oc : Value) (od : Option Addr) (kV doc pm ct : Value) (an : Option Addr) (osl : Array (Option Value)), fd = PySem.W.fnOf x qual (defArgs st) (defBody st) (defScope st) .none kV doc pm an (.ref c) ct ∧
    K.lookup f = some ⟨oc, od, .func (PySem.W.fnOf x qual (defArgs st) (defBody st) (defScope st) .none kV doc pm an (.ref c) ct), osl⟩ ∧ PySem.W.codeIn K (.ref c) qual = true
theorem okGT {P : Program} {w : World} {K : PySem.W.Frag} {mg : Str → Option Value} {base : Heap} {k : Nat} {f c : Addr} {fd : FuncData} {ps : List Str} {sp : Sp} {x qual : Str} {st : Stmt} {N : List Str} (F : FunT K x qual st f fd c) (S : FnScope N ps (defScope st)) (len : ∀ vs H Q E, sp vs H Q E → vs.length = ps.length)
    (hbody : ∀ (A : Around) (outer : List Env) (s : Shared) (H : Hp) (vs : List V) (Q : VK), RoomG k (A.deeper (envOfC qual (defScope st) s.heap.objs.size f (.ref c))) → sp vs H Q E0 →
      ∃ t, PSs (cxOf CX0 P w K mg base N qual (defScope st) f (.ref c) A outer s H E0).nox (defBody st) t ∧ t { nx := fun _ H' => Q .non H', rt := Q } (start N vs) H) : FnG P w K mg base (k + 1) f fd ps sp := by
  obtain ⟨oc, od, kV, doc, pm, ct, an, osl, rfl, lk, hcd⟩ := F.ex
  refine ⟨len, fun A outer s H args us vs Q hr e0 hb r hsp => LamX.run_ofS (CX := CX0) (E := E0) lk hcd S hr.rm e0 hb r (len _ _ _ _ hsp) fun hr' => ?_⟩
  obtain ⟨t, ht, hq⟩ := hbody A outer s H vs Q ⟨hr', hr.gd⟩ hsp
  exact ⟨t, ht.nox, hq⟩
/-- the code objects of such defs with their tables of code objects, as the head tells them -/
def TabsAt (T : List (Addr × Str)) (base : Heap) (mg : Str → Option Value) (cs : List (Addr × Addr)) : Prop := ∀ p ∈ cs, LamX.TabB base mg p.1 p.2
theorem tabs_same {T : List (Addr × Str)} {H H' : Hp} (t : LamX.Tabs T H) (s : Same H H') : LamX.Tabs T H' := t.ext fun b o e => s b o e
theorem tabs_nil {T : List (Addr × Str)} {H : Hp} (h : ∀ p ∈ T, H p.1 = some (.tbl #[])) : LamX.Tabs T H := fun p hp => .nil (h p hp)
end Lw

/-! ## Sx1 -/
set_option maxHeartbeats 4000000
/-! defs of a class's body that say super(): a frame with the cell of the class -/
namespace Lw
open PySem PySem.Spec PyProof.Rows L2
/-- the names of such a def -/
structure FnScopeC (N ps : List Str) (sc : Scope) : Prop where
  kind : sc.kind = .function
  co : sc.isCoroutine = false
  gen : sc.isGenerator = false
  nd : N.Nodup
  pre : N.take ps.length = ps
  par : ∀ x ∈ ps, sc.names.lookup x = some .local
  nocell : ∀ y ∈ sc.names, y.2 ≠ .cell
  free : ∀ y ∈ sc.names, y.2 = .free → y.1 = ("__class__" : Str)
abbrev envS (qual : Str) (scope : Scope) (L f : Addr) (cda cc : Addr) : Env := PySem.W.ksEnv qual scope L f (.ref cda) cc
def cxS (CX : CXT) (P : Program) (w : World) (K : PySem.W.Frag) (mg : Str → Option Value) (base : Heap) (N : List Str) (qual : Str) (scope : Scope) (f cda cc : Addr) (A : Around) (outer : List Env) (s : Shared) (H : Hp) (E : XK) : Cx where
  prog := P
  w := w
  K := K
  mg := mg
  base := base
  A := A.deeper (envS qual scope s.heap.objs.size f cda cc)
  N := N
  s_0 := s
  H_0 := H
  env := envS qual scope s.heap.objs.size f cda cc
  outer := outer
  stack := envS qual scope s.heap.objs.size f cda cc :: outer
  ex := []
  calm := true
  fn := fun _ => false
  pn := []
  xe := fun e s' => wpAny (model P w) (A.deeper (envS qual scope s.heap.objs.size f cda cc)) (leaving (envS qual scope s.heap.objs.size f cda cc) e) (fun _ s'' => CX outer H s E e s'') (fun e' s'' => CX outer H s E e' s'') s'
theorem look1 {y : Str} {c cc : Addr} (e : ([(("__class__" : Str), cc)] : List (Str × Addr)).lookup y = some c) : y = "__class__" ∧ c = cc := by
  unfold List.lookup at e
  split at e
  · rename_i h
    exact ⟨beq_iff_eq.mp h, (Option.some.inj e).symm⟩
  · cases e
theorem rev_look {α : Type} : ∀ {l : List (Str × α)} {i : Nat} {x : Str} {v : α}, (l.map (·.1)).Nodup → l[i]? = some (x, v) → l.reverse.lookup x = some v
  | [], i, x, v, _, h => by simp at h
  | (y, u) :: r, 0, x, v, hn, h => by
    cases h
    rw [List.reverse_cons, List.lookup_append]
    have : r.reverse.lookup y = none := by
      rw [List.lookup_eq_none_iff]
      intro p hp
      have hn := (List.nodup_cons.mp hn).1
      simp only [bne_iff_ne, ne_eq]
      intro e
      exact hn (List.mem_map.mpr ⟨p, List.mem_reverse.mp hp, e.symm⟩)
    rw [this]
    simp [List.lookup]
  | (y, u) :: r, i + 1, x, v, hn, h => by
    rw [List.reverse_cons, List.lookup_append]
    have := rev_look (l := r) (i := i) (List.nodup_cons.mp hn).2 h
    rw [this]
    rfl
theorem inv_startC {CX : CXT} {P : Program} {w : World} {K : PySem.W.Frag} {mg : Str → Option Value} {base : Heap} {N ps : List Str} {qual : Str} {scope : Scope} {f cda cc : Addr} {A : Around} {outer : List Env} {s : Shared} {H : Hp} {E : XK} {us : List Value} {vs : List V} {h₁ : Heap} {tk : Nat} {cu : Option Value}
    (S : FnScopeC N ps scope) (hd : A.handled = none) (e0 : Env0 P w K mg base A outer s H) (hl : vs.length = ps.length) (r : Vals vs us) (cell : base.IsCell cc cu)
    (hns : h₁.Ns s.heap.objs.size fun y => (ps.zip us).reverse.lookup y) (kp : ∀ b o, s.heap.get? b = some o → h₁.get? b = some o) :
    Inv (cxS CX P w K mg base N qual scope f cda cc A outer s H E) [] (start N vs) H { s with heap := h₁, toks := tk } := by
  have hpl : ps.length ≤ N.length := by
    have := congrArg List.length S.pre
    rw [List.length_take] at this
    omega
  obtain ⟨oc, hoc, hcd⟩ := cell
  obtain ⟨hs, hH⟩ := e0.bs cc oc hoc
  have noA : ∀ b : Addr, b ∉ (cxS CX P w K mg base N qual scope f cda cc A outer s H E).ex := fun b z => nomatch (show b ∈ ([] : List Addr) from z)
  refine ⟨⟨e0.mod, S.kind, rfl, rfl, Nat.le_refl _, fun y z c h1 h2 => (look1 h1).1.trans (look1 h2).1.symm, fun y hy => ?_, (fun y c z _ => nomatch (show false = true from z)), fun _ => hd, Around.frames_deeper e0.frames, .inr ⟨rfl, rfl⟩, fun b z => absurd z (noA b), e0.bs, e0.bsz, fun b _ _ => noA b, fun b z => absurd z (noA b), e0.funs, e0.frf⟩,
    rfl, e0.bare, Un.kept kp, ⟨_, hns, fun i y v h1 h2 h3 => ?_⟩, fun y c h => ?_, e0.hok.fresh (Nat.le_refl _), fun y c h => ?_, (fun p hp => nomatch (show p ∈ ([] : List (Addr × Obj)) from hp)), e0.hok.kept kp, ?_⟩
  · have hy : scope.names.lookup y = some .cell ∨ scope.names.lookup y = some .free := hy
    rcases hy with hy | hy
    · exact absurd rfl (S.nocell _ (PySem.mem_of_lookup hy))
    · obtain rfl : y = "__class__" := S.free _ (PySem.mem_of_lookup hy) rfl
      exact ⟨cc, rfl⟩
  · have hi : i < vs.length := by
      unfold L2.start at h2
      by_cases hi : i < vs.length
      · exact hi
      · rw [List.getElem?_append_right (by simpa using hi), List.getElem?_replicate] at h2
        split at h2 <;> cases h2
    have ha : vs[i]? = some v := by
      unfold L2.start at h2
      rw [List.getElem?_append_left (by simpa using hi), List.getElem?_map] at h2
      obtain ⟨a, e1, e2⟩ := Option.map_eq_some_iff.mp h2
      cases e2
      exact e1
    obtain ⟨u, hu, rv⟩ := r.get ha
    have hp : ps[i]? = some y := by
      rw [← S.pre, List.getElem?_take_of_lt (by omega)]
      exact h1
    have ndP : ps.Nodup := by
      rw [← S.pre]
      exact S.nd.sublist (List.take_sublist _ _)
    have lu : us.length = ps.length := r.length.symm.trans hl
    refine ⟨u, rv, .inl ⟨S.par y (List.mem_of_getElem? hp), rev_look (i := i) (by rw [List.map_fst_zip (by omega)]; exact ndP) ?_⟩⟩
    rw [List.getElem?_zip_eq_some]
    exact ⟨hp, hu⟩
  · obtain ⟨_, rfl⟩ := look1 h
    exact ⟨cu, oc, kp _ _ hs, hcd⟩
  · obtain ⟨_, rfl⟩ := look1 h
    exact hH
  · unfold L2.start
    show _ = N.length
    rw [List.length_append, List.length_map, List.length_replicate]
    omega
/-! ### statements in such a frame, told at the frame itself -/
structure PSA (X : Cx) (body : List Stmt) (st : Stmt) (t : TS) : Prop where
  run : ∀ (pins : List (Addr × Obj)) (s : Shared) (σ : L2.St) (H : Hp) (D : Ends), Inv X pins σ H s → t D σ H → _root_.PySem.wpAt (model X.prog X.w) X.A (.func body X.env) (exec st X.env) (SP X pins D) X.xe s
structure PSAs (X : Cx) (body : List Stmt) (ss : List Stmt) (t : TS) : Prop where
  run : ∀ (pins : List (Addr × Obj)) (s : Shared) (σ : L2.St) (H : Hp) (D : Ends), Inv X pins σ H s → t D σ H → _root_.PySem.wpAt (model X.prog X.w) X.A (.func body X.env) (execs ss X.env) (SP X pins D) X.xe s
section
variable {X : Cx} {body : List Stmt} {st : Stmt} {ss : List Stmt} {t t2 : TS}
theorem psa_of (h : PS X st t) : PSA X body st t := ⟨fun pins s σ H D I q => wpAt_of_wpAny (h.run pins s σ H D I q)⟩
theorem psas_of (h : PSs X ss t) : PSAs X body ss t := ⟨fun pins s σ H D I q => wpAt_of_wpAny (h.run pins s σ H D I q)⟩
theorem psas_cons (h : PSA X body st t) (r : PSAs X body ss t2) : PSAs X body (st :: ss) (tSeq t t2) := ⟨fun pins s σ H D I q => by
  refine PySem.ks_wpAt_execs_cons (PySem.ks_wpAt_mono (h.run pins s σ H _ I q) (fun fl s' hs => ?_) fun _ _ z => z)
  cases fl with
  | next =>
    obtain ⟨σ', H', J, q'⟩ := hs
    exact r.run pins s' σ' H' D J q'
  | brk => exact hs
  | cont => exact hs
  | ret u => exact hs⟩
end
end Lw

/-! ## Sx2 -/
set_option maxHeartbeats 4000000
/-! super().__init__(e, ..) -/
namespace Lw
open PySem PySem.Spec PyProof.Rows L2
/-- what the head tells of a def that says super(): itself, its code object, the cell of its class D -/
structure SupK (P : Program) (K : PySem.W.Frag) (f cda cc D : Addr) (fd : FuncData) : Prop where
  lk : ∃ oc od osl, K.lookup f = some ⟨oc, od, .func fd, osl⟩
  par : ∃ ar, (fd.params.posonlyargs ++ fd.params.args).head? = some ar ∧ ar.arg = ("self" : Str)
  cod : ∃ ccl cdd vs ccs file tf, K.lookup cda = some ⟨ccl, cdd, .fields vs, ccs⟩ ∧ vs[2]? = some (.str file tf) ∧ ((P.main.file : Str) == file) = true
  cel : ∃ cl cld csl, K.lookup cc = some ⟨cl, cld, .cell (some (.ref D)), csl⟩
  cls : ∃ cd, PySem.W.clsIn K D = some cd
  top : (P.main.scope.names.lookup ("super" : Str)).isSome = false
  st : PySem.W.nsIn K cStatics "thirdparty.any" = some none
/-- behind D, the class C finds f2 as its __init__ -/
structure SupTo (K : PySem.W.Frag) (D C f2 : Addr) : Prop where
  sub : PySem.W.mroIn K C (.ref D) = some true
  find : PySem.W.ks_superIn K C D "__init__" = some (some (.ref f2))
  ty : PySem.W.typeIn K (.ref f2) = some (.type "function")
  fn : PySem.W.fnIn K f2 = true
def tSup (K : PySem.W.Frag) (D f2 : Addr) (sp : Sp) (t : TA) : TS := fun D0 σ H => ∃ a C dx fs, σ[0]? = some (some (.ref a)) ∧ H a = some (.ins C dx fs) ∧ SupTo K D C f2 ∧ t σ H fun vs H1 => sp (.ref a :: vs) H1 (fun _ H2 => D0.nx σ H2) E0
section
variable {X : Cx} {body : List Stmt} {qual : Str} {scope : Scope} {L f cda cc D f2 : Addr} {fd fd2 : FuncData}
/-- the super object of the first parameter, and its __init__ bound -/
theorem sup_bound {p0 p1 : Pos} {whole : Sem Value} {pl : Sem Bool} {pins : List (Addr × Obj)} {σ : L2.St} {H : Hp} {s : Shared} {a C dx : Addr} {fs : List (Str × V)} {R : Value × List Value → Shared → Prop} (hX : X.env = envS qual scope L f cda cc) (S : SupK X.prog X.K f cda cc D fd) (T : SupTo X.K D C f2)
    (hm : X.mg "super" = none) (hks : scope.names.lookup ("super" : Str) = some .globalImplicit) (hkc : scope.names.lookup ("__class__" : Str) = some .free) (hka : scope.names.lookup ("self" : Str) = some .local) (hN : X.N[0]? = some ("self" : Str))
    (I : Inv X pins σ H s) (hs : σ[0]? = some (some (.ref a))) (ha : H a = some (.ins C dx fs))
    (h : ∀ q h' tk, Inv X pins σ H { s with heap := h', toks := tk } → h'.get? q = some (PySem.W.methodObj (.ref f2) (.ref a)) → H q = none → q ≠ X.env.locals → q ∉ X.fs → X.base.get? q = none → R (.ref q, []) { s with heap := h', toks := tk }) :
    _root_.PySem.wpAt (model X.prog X.w) X.A (.func body X.env) (attributeBase (.Call (.Name "super" p0) [] [] p1) "__init__" X.env whole) (fun ov s₁ => wpAny (model X.prog X.w) X.A (getMethod ov "__init__" pl) R X.xe s₁) X.xe s := by
  obtain ⟨oc, od, osl, lk⟩ := S.lk
  obtain ⟨ar, par, ear⟩ := S.par
  obtain ⟨ccl, cdd, us, ccs, file, tf, lc, hus, hfile⟩ := S.cod
  obtain ⟨cl, cld, csl, lcell⟩ := S.cel
  obtain ⟨cdD, hcd⟩ := S.cls
  obtain ⟨m, hn, hl⟩ := I.loc
  obtain ⟨mb, hb1, hb2⟩ := I.mod.blt
  obtain ⟨ox, odx, J⟩ := is_inst I ⟨dx, fs, ha⟩
  have KX := I.kIn
  have gl := I.mod.glob.keeps I.bk
  have bl := hb1.keeps I.bk
  have kind := I.ok.kind
  obtain ⟨u, ru, look⟩ := hl 0 "self" (.ref a) hN hs (.inl (by rw [hX]; exact hka))
  cases (show u = Value.ref a from ru)
  have hself : m "self" = some (.ref a) := by
    rcases look with ⟨_, e⟩ | ⟨k, _⟩
    · exact e
    · rw [hX] at k
      rcases k with k | k
      · exact nomatch hka.symm.trans k
      · exact nomatch hka.symm.trans k
  obtain ⟨oD, hD1, hD2⟩ : ∃ oD, s.heap.get? D = some oD ∧ oD.data = .cls cdD := by
    unfold PySem.W.clsIn at hcd
    split at hcd
    · rename_i c d cd' sl ho
      cases hcd
      exact ⟨_, KX _ _ ho, rfl⟩
    · cases hcd
  have fromI : ∀ {h' : Heap} {t' : Nat}, (∀ b o, s.heap.get? b = some o → h'.get? b = some o) → Inv X pins σ H { s with heap := h', toks := t' } := fun k => I.kept k
  obtain ⟨hh, g, d, t, os⟩ := s
  rw [hX] at hn kind ⊢
  refine PySem.ks_wpAt_super_base (env := envS qual scope L f cda cc) hks hkc (by decide) rfl (KX _ _ lk) rfl par rfl (KX _ _ lc) rfl hus hfile S.top ?_
  refine PySem.W.ks_loadName_global kind hks (Calls.loadGlobal_builtin (env := envS qual scope L f cda cc) gl hm bl ((hb2 _ (by decide)).trans (by decide +kernel)) ⟨rfl, ?_⟩)
  refine wpAny_loadName_free (c := cc) kind hkc rfl ⟨_, KX _ _ lcell, rfl⟩ ?_
  rw [ear]
  refine wpAny_loadName_local kind hka hn hself ?_
  refine PySem.ks_wpAny_isType_cls hD1 hD2 ⟨rfl, ?_⟩
  refine PySem.ks_wpAny_call_super hD1 hD2 J.at_ J.cls (fun c e => ?_) (PySem.W.looks_mroIn KX T.sub) (fun h' e k => ?_)
  · have := J.no
    unfold PySem.W.notCls at this
    rw [e] at this
    exact Bool.noConfusion this
  · have KX' := KX.keeps k
    have I1 : Inv X pins σ H ⟨h', g, d, t, os⟩ := fromI k
    have hf := T.find
    cases hc : PySem.W.clsIn X.K C with
    | none =>
      unfold PySem.W.ks_superIn at hf
      rw [hc] at hf
      cases hf
    | some cdC =>
      unfold PySem.W.ks_superIn at hf
      rw [hc] at hf
      obtain ⟨of, hof, hofc⟩ : ∃ of, h'.get? f2 = some of ∧ of.cls = .type "function" := by
        have ht : (X.K.lookup f2).map (·.cls) = some (.type "function") := T.ty
        obtain ⟨of, z, e2⟩ := Option.map_eq_some_iff.mp ht
        exact ⟨of, KX' _ _ z, e2⟩
      have neC : a ≠ C := fun q => by
        subst q
        unfold PySem.W.clsIn at hc
        split at hc
        · rename_i ho
          have e3 := KX _ _ ho
          rw [J.at_] at e3
          cases e3
          exact Bool.noConfusion J.no
        · cases hc
      refine PySem.ks_wpAny_getMethod_super e (PySem.W.looks_opaque KX' S.st) (l₀ := cdC.mro) (fun A Q E s k q => wpAny_bind ((PySem.W.looks_clsIn KX' hc) A _ E s k (wpAny_pure q))) rfl KX' hf hof hofc neC (by decide) ?_
      refine h h'.objs.size (h'.push (PySem.W.methodObj (.ref f2) (.ref a))) (t + 1) (fromI fun b o e => Heap.get?_push_of_some _ (k b o e)) (Heap.get?_push_at rfl rfl) (I1.hok.fresh (Nat.le_refl _)) (fun q => ?_) (I1.nofs (Nat.le_refl _)) ?_
      · have := I1.lt
        rw [← q] at this
        exact absurd this (Nat.lt_irrefl _)
      · cases z : X.base.get? h'.objs.size with
        | none => rfl
        | some o => exact absurd (Heap.lt_size (I1.bk _ _ z)) (Nat.lt_irrefl _)
theorem pin_put {pins : List (Addr × Obj)} {σ : L2.St} {H : Hp} {s : Shared} {q : Addr} {o : Obj} (I : Inv X pins σ H s) (hq : s.heap.get? q = some o) (h1 : H q = none) (h2 : q ≠ X.env.locals) (h3 : q ∉ X.fs) (h4 : ∀ v, o.data ≠ .cell v) : Inv X ((q, o) :: pins) σ H s := by
  have hp : ∀ p ∈ X.pn ++ ((q, o) :: pins), s.heap.get? p.1 = some p.2 ∧ H p.1 = none ∧ p.1 ≠ X.env.locals ∧ p.1 ∉ X.fs ∧ ∀ v, p.2.data ≠ .cell v := fun p hp => by
    rcases List.mem_append.mp hp with hp | hp
    · exact I.pin p (List.mem_append_left _ hp)
    · rcases List.mem_cons.mp hp with rfl | hp
      · exact ⟨hq, h1, h2, h3, h4⟩
      · exact I.pin p (List.mem_append_right _ hp)
  exact { I with pin := hp }
theorem pin_off {pins : List (Addr × Obj)} {σ : L2.St} {H : Hp} {s : Shared} {q : Addr × Obj} (I : Inv X (q :: pins) σ H s) : Inv X pins σ H s := by
  have hp : ∀ p ∈ X.pn ++ pins, s.heap.get? p.1 = some p.2 ∧ H p.1 = none ∧ p.1 ≠ X.env.locals ∧ p.1 ∉ X.fs ∧ ∀ v, p.2.data ≠ .cell v := fun p hp => by
    rcases List.mem_append.mp hp with hp | hp
    · exact I.pin p (List.mem_append_left _ hp)
    · exact I.pin p (List.mem_append_right _ (List.mem_cons_of_mem _ hp))
  exact { I with pin := hp }
theorem pin_at {pins : List (Addr × Obj)} {σ : L2.St} {H : Hp} {s : Shared} {q : Addr × Obj} (I : Inv X (q :: pins) σ H s) : s.heap.get? q.1 = some q.2 := (I.pin q (List.mem_append_right _ List.mem_cons_self)).1
variable {k j : Nat} {ps : List Str} {sp : Sp} {e : Expr} {es : List Expr} {t : TA}
/-- what the scope, the names and the head tell of such a frame -/
structure SupX (X : Cx) (qual : Str) (scope : Scope) (L f cda cc D : Addr) (fd : FuncData) : Prop where
  env : X.env = envS qual scope L f cda cc
  k : SupK X.prog X.K f cda cc D fd
  mg : X.mg "super" = none
  s : scope.names.lookup ("super" : Str) = some .globalImplicit
  c : scope.names.lookup ("__class__" : Str) = some .free
  a : scope.names.lookup ("self" : Str) = some .local
  n : X.N[0]? = some ("self" : Str)
/-- super().__init__(e, ..), which may raise what E tells -/
theorem psa_sup {R : TS} {p0 p1 apos pos pos' : Pos} (Z : SupX X qual scope L f cda cc D fd) (ha : PA X (e :: es) t)
    (hi : interactive X.env = false := by rfl) (hsw : swapsWith (.Call (.Attribute (.Call (.Name "super" p0) [] [] p1) "__init__" apos) (e :: es) [] pos) none pos'.line X.env = pure false := by rfl)
    (hev : ∃ pl, eval (.Call (.Attribute (.Call (.Name "super" p0) [] [] p1) "__init__" apos) (e :: es) [] pos) X.env = (do
      let ov ← attributeBase (.Call (.Name "super" p0) [] [] p1) "__init__" X.env (eval (.Call (.Name "super" p0) [] [] p1) X.env)
      standAt apos.atName
      let (f, first) ← holding [ov] (getMethod ov "__init__" pl)
      callWith pos f first (backTo pos (starEach (e :: es) X.env)) []) := by exact ⟨_, rfl⟩) (hst : starEach (e :: es) X.env = (false, eval e X.env) :: starEach es X.env := by rfl) (hpl : (backTo pos (starEach es X.env)).any (·.1) = false := by rfl)
    (run : ∀ (D0 : Ends) (σ : L2.St) (H : Hp), R D0 σ H → ∃ a C dx fs, σ[0]? = some (some (.ref a)) ∧ H a = some (.ins C dx fs) ∧ SupTo X.K D C f2 ∧ ∃ Qa : List V → Hp → Prop, t σ H Qa ∧ ∀ (vs : List V) (H1 : Hp), Qa vs H1 → ∀ (pins : List (Addr × Obj)) (s : Shared) (us : List Value), Inv X pins σ H1 s → Vals vs us →
      codeAny (model X.prog X.w) X.A (.call (.ref f2) ⟨.ref a :: us, []⟩) (fun r s' => match r with | .ok (.ret _) => ∃ H2, Inv X pins σ H2 s' ∧ D0.nx σ H2 | .ok _ => False | .error e => X.xe e s') s) :
    PSA X body (.Expr (.Call (.Attribute (.Call (.Name "super" p0) [] [] p1) "__init__" apos) (e :: es) [] pos) pos') R := by
  refine ⟨fun pins s σ H D0 I q0 => ?_⟩
  obtain ⟨a, C, dx, fs, hs, hi2, T, Qa, q, fin⟩ := run D0 σ H q0
  obtain ⟨pl, hev⟩ := hev
  refine PySem.ks_wpAt_Expr_any (PySem.ks_wpAt_MethodCall (pl := pl) (sup_bound Z.env Z.k T Z.mg Z.s Z.c Z.a Z.n I hs hi2 fun qa h' tk I1 hq h1 h2 h3 h4 => ?_) hev) hi hsw
  have I2 := pin_put (o := PySem.W.methodObj (.ref f2) (.ref a)) I1 hq h1 h2 h3 (fun v z => by cases z)
  refine PySem.W.callWith_M (h₀ := X.base) (L := X.env.locals) (news := [(qa, PySem.W.methodObj (.ref f2) (.ref a))]) I.ok.mod.kin (fun p hp => by rw [List.mem_singleton.mp hp]; exact ⟨hq, h2, h4⟩) (List.mem_singleton.mpr rfl) T.fn (thn (ha.run pos _ _ σ H _ I2 q) fun us s1 ⟨vs, H1, I3, r, q'⟩ => ⟨⟨pin_at I3, I3.kIn⟩, ?_⟩) hst hpl
  refine wpAny_call (PySem.ks_codeAny_call_bound (pin_at I3) (codeAny_mono (fin vs H1 q' _ s1 us I3 r) fun r s' z => ?_))
  match r, z with
  | .error e, z => exact z
  | .ok (.ret u), ⟨H2, J, z⟩ => exact ⟨σ, H2, pin_off J, z⟩
theorem psa_superG {p0 p1 apos pos pos' : Pos} (F : FnG X.prog X.w X.K X.mg X.base k f2 fd2 ps sp) (hb : ∀ us : List Value, us.length = ps.length → bindArgs fd2 ⟨us, []⟩ = pure (ps.zip us)) (hr : RoomG j X.A) (hk : k ≤ j) (Z : SupX X qual scope L f cda cc D fd) (ha : PA X (e :: es) t)
    (hi : interactive X.env = false := by rfl) (hsw : swapsWith (.Call (.Attribute (.Call (.Name "super" p0) [] [] p1) "__init__" apos) (e :: es) [] pos) none pos'.line X.env = pure false := by rfl)
    (hev : ∃ pl, eval (.Call (.Attribute (.Call (.Name "super" p0) [] [] p1) "__init__" apos) (e :: es) [] pos) X.env = (do
      let ov ← attributeBase (.Call (.Name "super" p0) [] [] p1) "__init__" X.env (eval (.Call (.Name "super" p0) [] [] p1) X.env)
      standAt apos.atName
      let (f, first) ← holding [ov] (getMethod ov "__init__" pl)
      callWith pos f first (backTo pos (starEach (e :: es) X.env)) []) := by exact ⟨_, rfl⟩) (hst : starEach (e :: es) X.env = (false, eval e X.env) :: starEach es X.env := by rfl) (hpl : (backTo pos (starEach es X.env)).any (·.1) = false := by rfl) :
    PSA X body (.Expr (.Call (.Attribute (.Call (.Name "super" p0) [] [] p1) "__init__" apos) (e :: es) [] pos) pos') (tSup X.K D f2 sp t) :=
  psa_sup Z ha hi hsw hev hst hpl fun D0 σ H ⟨a, C, dx, fs, hs, hi2, T, q⟩ => ⟨a, C, dx, fs, hs, hi2, T, _, q, fun vs H1 q1 pins s us I r => by
    refine codeAny_mono (run_g F (hr.mono hk) (hb (.ref a :: us) ?_) I (show Vals (.ref a :: vs) (.ref a :: us) from .cons rfl r) q1) fun r s' z => ?_
    · have e1 := F.len _ _ _ _ q1
      have e2 := r.length
      simp only [List.length_cons] at e1 ⊢
      omega
    · match r, z with
      | .error e, z => exact z
      | .ok (.ret u), ⟨v, H2, J, _, z⟩ => exact ⟨H2, J, z⟩⟩
/-- one that may raise -/
def tSupX (K : PySem.W.Frag) (D f2 : Addr) (sp : Sp) (W : WX) (t : TA) : TS := fun D0 σ H => ∃ a C dx fs, σ[0]? = some (some (.ref a)) ∧ H a = some (.ins C dx fs) ∧ SupTo K D C f2 ∧ t σ H fun vs H1 => sp (.ref a :: vs) H1 (fun _ H2 => D0.nx σ H2) (WX.at_ W σ)
theorem psa_superX {W : WX} {p0 p1 apos pos pos' : Pos} (F : FnX X.prog X.w X.K X.mg X.base k f2 fd2 ps sp) (hb : ∀ us : List Value, us.length = ps.length → bindArgs fd2 ⟨us, []⟩ = pure (ps.zip us)) (hr : RoomG j X.A) (hk : k ≤ j) (TW : L2N.Takes X W) (Z : SupX X qual scope L f cda cc D fd) (ha : PA X (e :: es) t)
    (hi : interactive X.env = false := by rfl) (hsw : swapsWith (.Call (.Attribute (.Call (.Name "super" p0) [] [] p1) "__init__" apos) (e :: es) [] pos) none pos'.line X.env = pure false := by rfl)
    (hev : ∃ pl, eval (.Call (.Attribute (.Call (.Name "super" p0) [] [] p1) "__init__" apos) (e :: es) [] pos) X.env = (do
      let ov ← attributeBase (.Call (.Name "super" p0) [] [] p1) "__init__" X.env (eval (.Call (.Name "super" p0) [] [] p1) X.env)
      standAt apos.atName
      let (f, first) ← holding [ov] (getMethod ov "__init__" pl)
      callWith pos f first (backTo pos (starEach (e :: es) X.env)) []) := by exact ⟨_, rfl⟩) (hst : starEach (e :: es) X.env = (false, eval e X.env) :: starEach es X.env := by rfl) (hpl : (backTo pos (starEach es X.env)).any (·.1) = false := by rfl) :
    PSA X body (.Expr (.Call (.Attribute (.Call (.Name "super" p0) [] [] p1) "__init__" apos) (e :: es) [] pos) pos') (tSupX X.K D f2 sp W t) :=
  psa_sup Z ha hi hsw hev hst hpl fun D0 σ H ⟨a, C, dx, fs, hs, hi2, T, q⟩ => ⟨a, C, dx, fs, hs, hi2, T, _, q, fun vs H1 q1 pins s us I r => by
    refine codeAny_mono (run_x F (hr.mono hk) rfl TW (hb (.ref a :: us) ?_) I (show Vals (.ref a :: vs) (.ref a :: us) from .cons rfl r) q1) fun r s' z => ?_
    · have e1 := F.len _ _ _ _ q1
      have e2 := r.length
      simp only [List.length_cons] at e1 ⊢
      omega
    · match r, z with
      | .error e, z => exact z
      | .ok (.ret u), ⟨v, H2, J, _, z⟩ => exact ⟨H2, J, z⟩⟩
end
end Lw

/-! ## Sx3 -/
set_option maxHeartbeats 4000000
/-! promises of defs that say super(), by their body; C(e, ..) -/
namespace Lw
open PySem PySem.Spec PyProof.Rows L2
/-- such a def, as the head tells it -/
structure FunC (P : Program) (K : PySem.W.Frag) (x qual : Str) (params : Arguments) (body : List Stmt) (scope : Scope) (f cda cc D : Addr) (fd : FuncData) : Prop where
  ex : ∃ (oc : Value) (od : Option Addr) (kV doc pm : Value) (an : Option Addr) (ct : Value) (osl : Array (Option Value)),
    fd = PySem.W.ksFn x qual params body scope .none kV doc pm an (.ref cda) ct cc ∧ K.lookup f = some ⟨oc, od, .func fd, osl⟩ ∧ PySem.W.codeIn K (.ref cda) qual = true
  kp : PySem.W.keepIn K (.ref f) = true
  sup : SupK P K f cda cc D fd
theorem FunC.bound {P : Program} {K : PySem.W.Frag} {x qual : Str} {params : Arguments} {body : List Stmt} {scope : Scope} {f cda cc D : Addr} {fd : FuncData} (F : FunC P K x qual params body scope f cda cc D fd) {p : FuncData → Prop}
    (h : ∀ kV doc pm an ct, p (PySem.W.ksFn x qual params body scope .none kV doc pm an (.ref cda) ct cc)) : p fd := by
  obtain ⟨_, _, kV, doc, pm, an, ct, _, e, _, _⟩ := F.ex
  rw [e]
  exact h kV doc pm an ct
/-- a def by place alone -/
def FnP (P : Program) (w : World) (K : PySem.W.Frag) (mg : Str → Option Value) (base : Heap) (CX : CXT) (k : Nat) (f : Addr) (sp : Sp) : Prop :=
  ∀ (A : Around) (outer : List Env) (s : Shared) (H : Hp) (us : List Value) (vs : List V) (Q : VK) (E : XK), RoomG k A → Env0 P w K mg base A outer s H → Vals vs us → sp vs H Q E →
    codeAny (model P w) A (.call (.ref f) ⟨us, []⟩) (CR CX outer P w H s Q E) s
section
variable {CX : CXT} {P : Program} {w : World} {K : PySem.W.Frag} {mg : Str → Option Value} {base : Heap} {k : Nat} {f cda cc D : Addr} {fd : FuncData} {x qual : Str} {params : Arguments} {body : List Stmt} {scope : Scope} {N ps : List Str} {sp : Sp}
theorem FnP.mono {j : Nat} (F : FnP P w K mg base CX j f sp) (h : j ≤ k) : FnP P w K mg base CX k f sp := fun A outer s H us vs Q E hr => F A outer s H us vs Q E (hr.mono h)
theorem FnG.p (F : FnG P w K mg base k f fd ps sp) (hb : ∀ us : List Value, us.length = ps.length → bindArgs fd ⟨us, []⟩ = pure (ps.zip us)) : FnP P w K mg base CX0 k f (fun vs H Q _ => sp vs H Q E0) :=
  fun A outer s H us vs Q E hr he hv hs => codeAny_mono (F.run A outer s H ⟨us, []⟩ us vs Q hr he (.of_eq (hb us (by rw [← hv.length]; exact F.len _ _ _ _ hs))) hv hs) fun r s' z => by
    cases r with
    | error e => exact False.elim z
    | ok fl =>
      cases fl with
      | ret u => exact z
      | next => exact False.elim z
      | brk => exact False.elim z
      | cont => exact False.elim z
theorem FnX.p (F : FnX P w K mg base k f fd ps sp) (hb : ∀ us : List Value, us.length = ps.length → bindArgs fd ⟨us, []⟩ = pure (ps.zip us)) : FnP P w K mg base (L2N.CX P w) k f sp :=
  fun A outer s H us vs Q E hr he hv hs => F.run A outer s H ⟨us, []⟩ us vs Q E hr he (.of_eq (hb us (by rw [← hv.length]; exact F.len _ _ _ _ hs))) hv hs
theorem run_bndC {A : Around} {outer : List Env} {s : Shared} {H : Hp} {args : Args} {Q : VK} {E : XK} {G : List V → Hp → Prop} (F : FunC P K x qual params body scope f cda cc D fd) (S : FnScopeC N ps scope) (hr : RoomG (k + 1) A) (e0 : Env0 P w K mg base A outer s H)
    (hb : StX.Bnd CX P w K mg base fd args ps A outer s H E G)
    (hbody : ∀ (s2 : Shared) (H2 : Hp) (vs : List V), G vs H2 → RoomG k (A.deeper (envS qual scope s2.heap.objs.size f cda cc)) →
      ∃ t, PSAs (cxS CX P w K mg base N qual scope f cda cc A outer s2 H2 E) body body t ∧ t { nx := fun _ H' => Q .non H', rt := Q } (start N vs) H2) : codeAny (model P w) A (.call (.ref f) args) (CR CX outer P w H s Q E) s := by
  obtain ⟨oc, od, kV, doc, pm, an, ct, osl, rfl, lk, hcd⟩ := F.ex
  obtain ⟨ccl, ccd, ccs, hcell⟩ := F.sup.cel
  have KX : K.In s.heap := e0.mod.kin.keeps fun b o e => (e0.bs b o e).1
  refine codeAny_call_function hr.rm.depth (KX _ _ lk) rfl S.co S.gen rfl (PySem.W.codeRec_of KX hcd) ?_
  refine hb _ _ _ fun s2 H2 vs us e2 un ho hx r hl g => ?_
  have lim : s2.heap.NoLimit := e0.mod.nolimit.keeps fun b o e => (e2.bs b o e).1
  have cell : base.IsCell cc (some (.ref D)) := ⟨_, e0.mod.kin _ _ hcell, rfl⟩
  refine wpAny_newFunctionEnv (s := s2) S.nocell (fun y hy => S.par y.1 (List.of_mem_zip hy).1) (fun h₀ hns₀ hsb₀ => ⟨lim.fresh _ hsb₀, PySem.ks_codeAny_funcAt ?_⟩) S.kind
  obtain ⟨t, ht, hq⟩ := hbody s2 H2 vs g (hr.deeper _)
  have I : Inv (cxS CX P w K mg base N qual scope f cda cc A outer s2 H2 E) [] (start N vs) H2 _ := inv_startC (tk := s2.toks + (ps.zip us).length) S hr.rm.hd e2 hl r cell hns₀ fun b o e => hsb₀.extBut b o (Nat.ne_of_lt (Heap.lt_size e)) (Heap.get?_push_of_some _ e)
  refine PySem.ks_wpAt_mono (ht.run [] _ _ _ _ I hq) (fun fl s' hs => ?_) fun e s' hs => ?_
  · have fin : ∀ {σ' : L2.St} {H' : Hp} {v' : V} {u' : Value}, Inv (cxS CX P w K mg base N qual scope f cda cc A outer s2 H2 E) [] σ' H' s' → RelV v' u' → Q v' H' → CE outer P w H s Q u' s' :=
      fun {σ' H' v' u'} J rv' q => ⟨v', H', J.os.trans ho, J.bare, un.trans J.base, J.hok, rv', q⟩
    cases fl with
    | ret u' =>
      obtain ⟨v', σ', H', J, rv', q⟩ := hs
      exact fin J rv' q
    | next =>
      obtain ⟨σ', H', J, q⟩ := hs
      exact fin (v' := V.non) (u' := Value.none) J rfl q
    | brk =>
      obtain ⟨_, _, _, q⟩ := hs
      exact False.elim q
    | cont =>
      obtain ⟨_, _, _, q⟩ := hs
      exact False.elim q
  · exact wpAny_mono hs (fun _ s'' z => hx e s'' z) fun e' s'' z => hx e' s'' z
/-- what is bound stands as it is -/
theorem bnd_eq {A : Around} {outer : List Env} {s : Shared} {H : Hp} {args : Args} {E : XK} {us : List Value} {vs : List V} (e0 : Env0 P w K mg base A outer s H) (b : BindsTo s fd args (ps.zip us)) (r : Vals vs us) (hl : vs.length = ps.length) :
    StX.Bnd CX P w K mg base fd args ps A outer s H E (fun xs H2 => xs = vs ∧ H2 = H) := fun A' Ex Q h => b _ _ _ _ (h s H vs us e0 Un.refl rfl (fun _ _ z => z) r hl ⟨rfl, rfl⟩)
theorem okGC (F : FunC P K x qual params body scope f cda cc D fd) (S : FnScopeC N ps scope) (len : ∀ vs H Q E, sp vs H Q E → vs.length = ps.length)
    (hbody : ∀ (A : Around) (outer : List Env) (s : Shared) (H : Hp) (vs : List V) (Q : VK), RoomG k (A.deeper (envS qual scope s.heap.objs.size f cda cc)) → sp vs H Q E0 →
      ∃ t, PSAs (cxS CX0 P w K mg base N qual scope f cda cc A outer s H E0) body body t ∧ t { nx := fun _ H' => Q .non H', rt := Q } (start N vs) H) : FnG P w K mg base (k + 1) f fd ps sp :=
  ⟨len, fun A outer s H args us vs Q hr e0 hb r hsp => run_bndC F S hr e0 (bnd_eq e0 hb r (len _ _ _ _ hsp)) fun s2 H2 xs ⟨e1, e2⟩ hr' => by
    subst e1 e2
    exact hbody A outer s2 _ _ Q hr' hsp⟩
theorem okXC (F : FunC P K x qual params body scope f cda cc D fd) (S : FnScopeC N ps scope) (len : ∀ vs H Q E, sp vs H Q E → vs.length = ps.length)
    (hbody : ∀ (A : Around) (outer : List Env) (s : Shared) (H : Hp) (vs : List V) (Q : VK) (E : XK), RoomG k (A.deeper (envS qual scope s.heap.objs.size f cda cc)) → sp vs H Q E →
      ∃ t, PSAs (cxS (L2N.CX P w) P w K mg base N qual scope f cda cc A outer s H E) body body t ∧ t { nx := fun _ H' => Q .non H', rt := Q } (start N vs) H) : FnX P w K mg base (k + 1) f fd ps sp :=
  ⟨len, fun A outer s H args us vs Q E hr e0 hb r hsp => run_bndC F S hr e0 (bnd_eq e0 hb r (len _ _ _ _ hsp)) fun s2 H2 xs ⟨e1, e2⟩ hr' => by
    subst e1 e2
    exact hbody A outer s2 _ _ Q E hr' hsp⟩
/-- def f(a, .., *v) that says super() -/
theorem fn_starC {pv : Str} (F : FunC P K x qual params body scope f cda cc D fd) (S : FnScopeC N (ps ++ [pv]) scope) (hCX : StX.CXUp CX)
    (hb : ∀ us rest : List Value, us.length = ps.length → bindArgs fd ⟨us ++ rest, []⟩ = (newTuple rest >>= fun t => pure (ps.zip us ++ [(pv, t)])))
    (hbody : ∀ (A : Around) (outer : List Env) (s : Shared) (H : Hp) (vs : List V) (Q : VK) (E : XK), RoomG k (A.deeper (envS qual scope s.heap.objs.size f cda cc)) → sp vs H Q E →
      ∃ t, PSAs (cxS CX P w K mg base N qual scope f cda cc A outer s H E) body body t ∧ t { nx := fun _ H' => Q .non H', rt := Q } (start N vs) H) :
    FnP P w K mg base CX (k + 1) f (fun vs H Q E => ∃ ws rest, vs = ws ++ rest ∧ ws.length = ps.length ∧ rest.length ≤ sizeLine ∧ ∀ p, H p = Option.none → sp (ws ++ [V.ref p]) (upd H p (.tup rest)) Q E) := by
  intro A outer s H us vs Q E hr e0 r hsp
  obtain ⟨ws, rest, ev, hl, hz, hq⟩ := hsp
  subst ev
  obtain ⟨u1, u2, eu, r1, r2⟩ := StX.vals_split r
  subst eu
  have hn : H s.heap.objs.size = Option.none := e0.hok.fresh (Nat.le_refl _)
  have hl1 : u1.length = ps.length := by rw [← r1.length]; exact hl
  have hl2 : u2.length ≤ sizeLine := by rw [← r2.length]; exact hz
  refine run_bndC F S hr e0 (G := fun xs H2 => ∃ p, H p = Option.none ∧ xs = ws ++ [V.ref p] ∧ H2 = upd H p (.tup rest)) (fun A' Ex Q' h => ?_) fun s2 H2 xs ⟨p, hp, ex, eH⟩ hr' => ?_
  · rw [hb u1 u2 hl1]
    refine wpAny_bind (wpAny_newTuple (wpAny_pure ?_) hl2)
    have new : ObjOk P w (upd H s.heap.objs.size (.tup rest)) (s.heap.push ({ cls := .type "tuple", data := .seq u2.toArray } : Obj)) s.heap.objs.size (.tup rest) := ⟨hz, u2, r2, ⟨_, Heap.get?_push_size _ rfl, rfl, _, rfl⟩⟩
    have un := StX.un_laid (fs := frs outer) (s := s) (o := ({ cls := .type "tuple", data := .seq u2.toArray } : Obj)) (u := .tup rest) hn
    have z := h _ _ (ws ++ [V.ref s.heap.objs.size]) (u1 ++ [Value.ref s.heap.objs.size]) (StX.env0_laid e0 new) un rfl (fun e s' => hCX outer s H _ _ E e s' un (fun b o q => Heap.get?_push_of_some _ q) rfl) (r1.append (.cons rfl .nil))
      (by rw [List.length_append, List.length_append, hl] <;> rfl) ⟨_, hn, rfl, rfl⟩
    rw [List.zip_append hl1.symm] at z
    exact z
  · subst ex eH
    exact hbody A outer s2 _ _ Q E hr' (hq p hp)
end
/-! ### C(e, ..), where no guard is set -/
def tMakeP (C : Addr) (sp : Sp) (t : TA) : TE := fun σ H Q => t σ H fun vs H1 => ∀ x dx, H1 x = Option.none → H1 dx = Option.none → dx ≠ x → sp (V.ref x :: vs) (upd (upd H1 dx (.own x)) x (.ins C dx [])) (fun v H2 => v = .non ∧ Q (.ref x) H2) E0
/-- a class by the promise of its __init__ -/
structure MkP (P : Program) (w : World) (K : PySem.W.Frag) (mg : Str → Option Value) (base : Heap) (k : Nat) (x : Str) (C : Addr) (sp : Sp) : Prop where
  ex : ∃ f : Addr, Mk K C f ∧ FnP P w K mg base CX0 k f sp ∧ mg x = some (.ref C)
section
variable {X : Cx} {k j : Nat} {f C : Addr} {sp : Sp} {x : Str} {e : Expr} {es : List Expr} {t : TA} {p pos : Pos}
theorem run_makeP {pins : List (Addr × Obj)} {σ : L2.St} {H : Hp} {s : Shared} {Q : VK} {us : List Value} {vs : List V} (M : Mk X.K C f) (F : FnP X.prog X.w X.K X.mg X.base CX0 k f sp) (hr : RoomG (k + 1) X.A) (I : Inv X pins σ H s) (r : Vals vs us)
    (h : ∀ x dx, H x = Option.none → H dx = Option.none → dx ≠ x → sp (V.ref x :: vs) (upd (upd H dx (.own x)) x (.ins C dx [])) (fun v H2 => v = .non ∧ Q (.ref x) H2) E0) :
    wpAny (model X.prog X.w) X.A (call (.ref C) us) (EP X pins σ Q) X.xe s := by
  have hq := h (s.heap.objs.size + 1) s.heap.objs.size (I.hok.fresh (Nat.le_succ _)) (I.hok.fresh (Nat.le_refl _)) (Nat.ne_of_lt (Nat.lt_succ_self _))
  have I2 := Inv.made (C := C) I
  have r2 : Vals (V.ref (s.heap.objs.size + 1) :: vs) (Value.ref (s.heap.objs.size + 1) :: us) := .cons rfl r
  refine wpAny_call (make_map (f := f) I.kIn M.makes M.init (beq_iff_eq.mp M.fn) (codeAny_mono (F _ X.stack _ _ (Value.ref (s.heap.objs.size + 1) :: us) _ _ E0 (hr.make C us []) (I2.env0.make C us []) r2 hq) fun r s' hq' => ?_))
  cases r with
  | error e => exact False.elim hq'
  | ok fl =>
    cases fl with
    | ret u =>
      obtain ⟨v, H', I3, rv, ev, q3⟩ := I2.after hq'
      subst ev
      exact ⟨rv, ⟨V.ref (s.heap.objs.size + 1), H', I3, rfl, q3⟩⟩
    | next => exact False.elim hq'
    | brk => exact False.elim hq'
    | cont => exact False.elim hq'
theorem pe_makeP (M : MkP X.prog X.w X.K X.mg X.base k x C sp) (hr : RoomG j X.A) (hk : k + 1 ≤ j) (hg : Gl X x) (ha : PA X (e :: es) t) (hdb : (x == ("__debug__" : Str)) = false := by decide)
    (he : starEach (e :: es) X.env = (false, eval e X.env) :: starEach es X.env := by rfl) (hpl : (backTo pos (starEach es X.env)).any (·.1) = false := by rfl) : PE X (.Call (.Name x p) (e :: es) [] pos) (tMakeP C sp t) := by
  obtain ⟨f, M, F, hm⟩ := M.ex
  refine ⟨fun pins s σ H Q I h => ?_⟩
  refine wpAny_Call_Name_kw (ld_glob I hg hm ?_ hdb)
  refine PySem.W.callWith_K (h₀ := X.base) I.ok.mod.kin M.kp (thn (ha.run pos pins s σ H _ I h) fun us s1 ⟨vs, H1, I1, r, q⟩ => ⟨I1.kIn, ?_⟩) he hpl
  exact run_makeP M F (hr.mono hk) I1 r q
theorem pe_makeP0 (M : MkP X.prog X.w X.K X.mg X.base k x C sp) (hr : RoomG j X.A) (hk : k + 1 ≤ j) (hg : Gl X x) (hdb : (x == ("__debug__" : Str)) = false := by decide) : PE X (.Call (.Name x p) [] [] pos) (tMakeP C sp tNil) := by
  obtain ⟨f, M, F, hm⟩ := M.ex
  refine ⟨fun pins s σ H Q I h => ?_⟩
  refine wpAny_Call_Name_kw (ld_glob I hg hm ?_ hdb)
  refine PySem.W.callWith_K0 I.kIn M.kp ?_
  exact run_makeP M F (hr.mono hk) I .nil h
end
end Lw

/-! ## Sx4 -/
set_option maxHeartbeats 4000000
/-! {e for x in a for y in b}: a set of texts, by two clauses without tests -/
namespace Lw
open PySem PySem.Spec PyProof.Rows L2
theorem thnE {α : Type} {t : Sem α} {Q Q' : α → Shared → Prop} {M : Model} {A : Around} {E : Value → Shared → Prop} {s : Shared} (h : wpAny M A t Q E s) (hQ : ∀ a s, Q a s → Q' a s) : wpAny M A t Q' E s := wpAny_mono h hQ fun _ _ x => x
section
variable {prog : Program} {w : World} {A : Around} {R : Result → Shared → Prop} {s : Shared} {elt t0 i0 t1 i1 : Expr} {scope : Scope} {pos : Pos} {it acc : Value} {env : Env}
/-- a turn of the first clause -/
theorem sx_turn0 : compTurn (.SetComp elt [⟨t0, i0, [], 0⟩, ⟨t1, i1, [], 0⟩] scope pos) 0 it acc env = (do
      standAt i0.pos
      match ← pyNext it with
      | none => pure (.done .next)
      | some v =>
        letOwnedTupleGo t0 it v
        assign t0 env v
        let x ← eval i1 env
        standAt i1.pos
        let x ← foldedSetIterable i1 env x
        let _ ← runOwn (.compStart (.SetComp elt [⟨t0, i0, [], 0⟩, ⟨t1, i1, [], 0⟩] scope pos) 1 (← holding [x] (pyIter x)) acc env) env
        again (.compLoop (.SetComp elt [⟨t0, i0, [], 0⟩, ⟨t1, i1, [], 0⟩] scope pos) 0 it acc env)) := by rfl
/-- a turn of the second -/
theorem sx_turn1 : compTurn (.SetComp elt [⟨t0, i0, [], 0⟩, ⟨t1, i1, [], 0⟩] scope pos) 1 it acc env = (do
      standAt i1.pos
      match ← pyNext it with
      | none => pure (.done .next)
      | some v =>
        letOwnedTupleGo t1 it v
        assign t1 env v
        (do let v ← eval elt env; standAt elt.pos; let _ ← call (.builtin "set.add") [acc, v])
        again (.compLoop (.SetComp elt [⟨t0, i0, [], 0⟩, ⟨t1, i1, [], 0⟩] scope pos) 1 it acc env)) := by rfl
/-- the first clause's loop: from each item's source the second one's start -/
theorem sx_loop0 (hs : ∀ x, foldedSetIterable i1 env x = pure x) (I : Nat → Shared → Prop)
    (turn : ∀ n s, I n s → wpAny (model prog w) A (pyNext it) (fun r s₁ => match r with
      | none => R (.ok .next) s₁
      | some v => wpAny (model prog w) A (letOwnedTupleGo t0 it v) (fun _ s₂ => wpAny (model prog w) A (assign t0 env v) (fun _ s₃ => wpAny (model prog w) A (eval i1 env) (fun x s₄ => wpAny (model prog w) A (pyIter x) (fun it1 s₅ =>
          codeAny (model prog w) A (.compStart (.SetComp elt [⟨t0, i0, [], 0⟩, ⟨t1, i1, [], 0⟩] scope pos) 1 it1 acc env) (fun r s' => match r with
            | .ok _ => ∃ m, m < n ∧ I m s'
            | .error _ => False) s₅) (notedBy (model prog w) A env fun e s' => R (.error e) s') s₄) (notedBy (model prog w) A env fun e s' => R (.error e) s') s₃) (notedBy (model prog w) A env fun e s' => R (.error e) s') s₂) (notedBy (model prog w) A env fun e s' => R (.error e) s') s₁)
      (notedBy (model prog w) A env fun e s' => R (.error e) s') s)
    (n : Nat) (h : I n s) : codeAny (model prog w) A (.compLoop (.SetComp elt [⟨t0, i0, [], 0⟩, ⟨t1, i1, [], 0⟩] scope pos) 0 it acc env) R s := by
  refine codeAny_loop rfl I (fun n s hI => ?_) n h
  show wpAny _ A ((compTurn (.SetComp elt [⟨t0, i0, [], 0⟩, ⟨t1, i1, [], 0⟩] scope pos) 0 it acc env).onRaise (fun x => do noteFrame x env; theTreesLotGoes x)) _ _ s
  refine wpAny_noted ?_
  rw [sx_turn0]
  refine wpAny_bind (wpAny_standAt (wpAny_bind (thnE (turn n s hI) fun r s₁ h₁ => ?_)))
  cases r with
  | none => exact wpAny_pure h₁
  | some v =>
    refine wpAny_bind (thnE h₁ fun _ s₂ h₂ => wpAny_bind (thnE h₂ fun _ s₃ h₃ => wpAny_bind (thnE h₃ fun x s₄ h₄ => ?_)))
    refine wpAny_bind (wpAny_standAt (wpAny_bind (wpAny_of_eq (hs x) (wpAny_bind (wpAny_holding (thnE h₄ fun it1 s₅ h₅ => ?_))))))
    refine wpAny_bind (wpAny_runOwn ?_)
    rw [Around.mark_none]
    refine codeAny_mono h₅ fun r s' hr => ?_
    cases r with
    | ok f => first | exact wpAny_pure ⟨rfl, hr⟩ | exact wpAny_bind (wpAny_pure (wpAny_pure ⟨rfl, hr⟩))
    | error e => exact hr.elim
/-- the second clause's loop -/
theorem sx_loop1 (I : Nat → Shared → Prop)
    (turn : ∀ n s, I n s → wpAny (model prog w) A (pyNext it) (fun r s₁ => match r with
      | none => R (.ok .next) s₁
      | some v => wpAny (model prog w) A (letOwnedTupleGo t1 it v) (fun _ s₂ => wpAny (model prog w) A (assign t1 env v) (fun _ s₃ => wpAny (model prog w) A (eval elt env) (fun x s₄ =>
          wpAny (model prog w) A (call (.builtin "set.add") [acc, x]) (fun _ s₅ => ∃ m, m < n ∧ I m s₅) (notedBy (model prog w) A env fun e s' => R (.error e) s') s₄) (notedBy (model prog w) A env fun e s' => R (.error e) s') s₃) (notedBy (model prog w) A env fun e s' => R (.error e) s') s₂) (notedBy (model prog w) A env fun e s' => R (.error e) s') s₁)
      (notedBy (model prog w) A env fun e s' => R (.error e) s') s)
    (n : Nat) (h : I n s) : codeAny (model prog w) A (.compLoop (.SetComp elt [⟨t0, i0, [], 0⟩, ⟨t1, i1, [], 0⟩] scope pos) 1 it acc env) R s := by
  refine codeAny_loop rfl I (fun n s hI => ?_) n h
  show wpAny _ A ((compTurn (.SetComp elt [⟨t0, i0, [], 0⟩, ⟨t1, i1, [], 0⟩] scope pos) 1 it acc env).onRaise (fun x => do noteFrame x env; theTreesLotGoes x)) _ _ s
  refine wpAny_noted ?_
  rw [sx_turn1]
  refine wpAny_bind (wpAny_standAt (wpAny_bind (thnE (turn n s hI) fun r s₁ h₁ => ?_)))
  cases r with
  | none => exact wpAny_pure h₁
  | some v =>
    exact wpAny_bind (thnE h₁ fun _ s₂ h₂ => wpAny_bind (thnE h₂ fun _ s₃ h₃ => wpAny_bind (wpAny_bind (thnE h₃ fun x s₄ h₄ => wpAny_bind (wpAny_standAt (wpAny_bind (thnE h₄ fun _ s₅ h₅ => wpAny_pure (wpAny_pure ⟨rfl, h₅⟩))))))))
/-- the second clause's start -/
theorem sx_start1 (h0 : codeAny (model prog w) A (.compLoop (.SetComp elt [⟨t0, i0, [], 0⟩, ⟨t1, i1, [], 0⟩] scope pos) 1 it acc env) R s)
    (h : wpAny (model prog w) A (pyIter it) (fun it' s' => codeAny (model prog w) A (.compLoop (.SetComp elt [⟨t0, i0, [], 0⟩, ⟨t1, i1, [], 0⟩] scope pos) 1 it' acc env) R s')
      (notedBy (model prog w) A env fun x s' => R (.error x) s') s) :
    codeAny (model prog w) A (.compStart (.SetComp elt [⟨t0, i0, [], 0⟩, ⟨t1, i1, [], 0⟩] scope pos) 1 it acc env) R s := by
  refine codeAny_of_tree ?_
  show wpAny _ _ ((compStart (.SetComp elt [⟨t0, i0, [], 0⟩, ⟨t1, i1, [], 0⟩] scope pos) 1 it acc env).onRaise (fun x => do noteFrame x env; standAt theWindowsPlace)) _ _ s
  refine wpAny_notedAt ?_
  unfold compStart
  show wpAny _ _ (ask >>= _) _ _ s
  refine wpAny_bind (wpAny_askSetting (wpAny_ite ?_))
  split
  · first
      | exact wpAny_bind (wpAny_pure (wpAny_pure (And.intro rfl h0)))
      | exact wpAny_pure (And.intro rfl h0)
  · first
      | exact wpAny_bind (wpAny_rule (wpAny_bind (wpAny_standAt (wpAny_bind (thnE h fun it' s' h' => wpAny_pure (And.intro rfl h'))))))
      | (refine wpAny_bind (wpAny_rule ?_); show wpAny _ _ (standAt i1.pos >>= _) _ _ s; exact wpAny_bind (wpAny_standAt (wpAny_bind (thnE h fun it' s' h' => wpAny_pure (And.intro rfl h')))))
end
section
variable {X : Cx}
/-- set.add of a text -/
theorem tset_addC {P : Program} {w : World} {A : Around} {E : Value → Shared → Prop} {s : Shared} {a : Addr} {xs : List Str} {x : Str} {u : Tok} {Q : Value → Shared → Prop} (R : Lt.TSet w s.heap a xs) (room : xs.length + 1 < scanBound)
    (hQ : ∀ h', Heap.SameBut a s.heap h' → Lt.TSet w h' a (Lt.ins x xs) → Q .none { s with heap := h', toks := s.toks + 1 }) : wpAny (model P w) A (call (.builtin "set.add") [.ref a, .str x u]) Q E s := by
  have R0 := R
  obtain ⟨o, es, ep, t, ho, hex, _⟩ := R0
  refine wpAny_call_entry F.slot_set_add ⟨o, ho, hex.1⟩ F.entry_set_add ?_ (F.args_set_add_2 _ _)
  unfold Builtin.«set.add» Builtin.Frozenset.oneOther
  simp only [List.isEmpty_nil, bind_assoc]
  unfold Builtin.Frozenset.addrOf setAdd
  refine wpAny_bind (wpAny_pure ?_)
  try dsimp only
  refine wpAny_bind (wpAny_pure ?_)
  try dsimp only
  refine wpAny_bind ?_
  refine wpAny_holding ?_
  refine wpAny_bind ((strKind P w).pyHash (strKind_is P w x u) ?_)
  refine Lt.tset_add (s := { s with toks := s.toks + 1 }) R room fun _ h' sb r => ?_
  show wpAny _ _ (ret Value.none) _ _ _
  exact wpAny_pure ⟨_, rfl, hQ h' sb r⟩
theorem addT_ok {pins : List (Addr × Obj)} {σ : L2.St} {H : Hp} {s : Shared} {E : Value → Shared → Prop} {D : Addr} {xs : List Str} {y : Str} {u : Tok} {Q : Value → Shared → Prop} (I : Inv X pins σ H s) (hD : H D = some (Lt.TxO X.w D xs)) (room : xs.length + 1 < scanBound)
    (h : ∀ s', Inv X pins σ (upd H D (Lt.TxO X.w D (Lt.ins y xs))) s' → Q .none s') : wpAny (model X.prog X.w) X.A (call (.builtin "set.add") [.ref D, .str y u]) Q E s := by
  have R : Lt.TSet X.w s.heap D xs := (I.hok D _ hD).1
  refine tset_addC R room fun h' sb new => ?_
  have he : ∃ u, h'.get? D = some u := by
    have ⟨o, _, _, _, ho, _⟩ := new
    exact ⟨o, ho⟩
  exact h _ (I.write (e := D) (t' := s.toks + 1) (by rw [hD]; trivial) (.inl rfl) (fun b u hb hu => (sb.2 b hb).trans hu) he (Lt.txO_new new))
/-- over tuples and the like: behind each item of the first source the second one's loop; each text goes into the set at D -/
def tSx (w : World) (wi : TI) (g : TG) (wi1 : TI) (g1 : TG) (te : TE) (vs vs1 : List Nat) : TE := fun σ H Q => wi σ H fun J H1 => ∀ D, H1 D = none → ∃ W : Nat → Nat → Hp → Prop, (∃ m, W 0 m (upd H1 D (Lt.TxO w D []))) ∧ ∀ i m H, W i m H →
  (J.stop i H ∧ Q (.ref D) H) ∨ (J.go i H ∧ ∃ Nx : Hp → Prop, (∀ H', Nx H' → ∃ m', m' < m ∧ W (i + 1) m' H') ∧ ∀ x H', J.yld i H x H' → g x (wipe σ vs) H' fun σ2 H2 => wipe σ2 vs = wipe σ vs ∧
    wi1 σ2 H2 fun J1 H4 => ∃ W1 : Nat → Nat → Hp → Prop, (∃ m, W1 0 m H4) ∧ ∀ j k H, W1 j k H →
      (J1.stop j H ∧ Nx H) ∨ (J1.go j H ∧ ∃ Nx1 : Hp → Prop, (∀ H', Nx1 H' → ∃ k', k' < k ∧ W1 (j + 1) k' H') ∧ ∀ x H', J1.yld j H x H' → g1 x (wipe σ2 vs1) H' fun σ3 H5 => wipe σ3 vs1 = wipe σ2 vs1 ∧
        te σ3 H5 fun y H7 => ∃ z xs, y = .str z ∧ H7 D = some (Lt.TxO w D xs) ∧ xs.length + 1 < scanBound ∧ Nx1 (upd H7 D (Lt.TxO w D (Lt.ins z xs)))))
theorem pe_sx {elt tg iter tg1 iter1 : Expr} {scope : Scope} {own : List (Str × Nat)} {vs1 : List Nat} {pos : Pos} {wi wi1 : TI} {g g1 : TG} {te : TE} (hc : X.calm = true) (hN : X.N.Nodup) (hi : PI X tg iter wi) (ok : BlkOk X.N X.env.scope scope own) (hv : ∀ i ∈ vs1, i ∈ own.map (·.2))
    (hg : ∀ (s : Shared) (H : Hp) (C : Addr) (cl : List (Str × Addr)) (fp : List Addr), PG (X.blk s H scope (compEnvC scope cl C X.env) fp) tg g)
    (hi1 : ∀ (s : Shared) (H : Hp) (C : Addr) (cl : List (Str × Addr)) (fp : List Addr), PI (X.blk s H scope (compEnvC scope cl C X.env) fp) tg1 iter1 wi1)
    (hg1 : ∀ (s : Shared) (H : Hp) (C : Addr) (cl : List (Str × Addr)) (fp : List Addr), PG (X.blk s H scope (compEnvC scope cl C X.env) fp) tg1 g1)
    (he : ∀ (s : Shared) (H : Hp) (C : Addr) (cl : List (Str × Addr)) (fp : List Addr), PE (X.blk s H scope (compEnvC scope cl C X.env) fp) elt te) (hs : ∀ x, foldedSetIterable iter X.env x = pure x := by intro _; rfl) (hs1 : ∀ env x, foldedSetIterable iter1 env x = pure x := by intro _ _; rfl) :
    PE X (.SetComp elt [⟨tg, iter, [], 0⟩, ⟨tg1, iter1, [], 0⟩] scope pos) (tSx X.w wi g wi1 g1 te (own.map (·.2)) vs1) := by
  refine ⟨fun pins s σ H Q I h => ?_⟩
  have hfree : ∀ y ∈ scope.names, y.2 = .free → ∃ c, X.env.cells.lookup y.1 = some c := fun y hy e => (ok.free y hy e).elim (fun k => I.ok.has _ (.inl k)) fun k => I.ok.has _ (.inr k)
  rw [PpSet.eval_SetComp]
  refine wpAny_comprehension_free (use := none) rfl hs (closure_ok hfree) ok.kind (fun y hy e => by rw [ok.uniq y hy, e])
    (thn (hi.run pins s σ H _ I h) fun xv s1 hx => thn hx fun itv s2 h2 => ?_)
  obtain ⟨it, fp, tn, J, H2, rfl, I2, T, st2, f2, q⟩ := h2
  refine PpSet.newSet_ok (newEnv_comp ?_)
  generalize hD : s2.heap.objs.size = D
  have hDn : H2 D = none := I2.hok.fresh (Nat.le_of_eq hD)
  obtain ⟨W, ⟨m0, w0⟩, turn⟩ := q D hDn
  generalize hs3 : ({ s2 with heap := s2.heap.push { cls := .type "set", dict := none, data := .set #[] 0 (.fresh 0 0 (!X.w.params.followText "set-order")) } } : Shared) = s3
  have h3 : s3.heap = s2.heap.push { cls := .type "set", dict := none, data := .set #[] 0 (.fresh 0 0 (!X.w.params.followText "set-order")) } := by rw [← hs3]
  generalize hH3 : upd H2 D (Lt.TxO X.w D []) = H3 at w0
  have I3 : Inv X pins σ H3 s3 := by
    rw [← hs3, ← hH3]
    refine I2.laid (t' := s2.toks) (fun b o e => Heap.get?_push_of_some _ e) (Nat.le_of_eq hD) ?_
    rw [← hD]
    exact Lt.txO_new (Lt.tset_nil (Heap.get?_push_size _ rfl))
  have f3 : ∀ b ∈ fp, FpOk X pins H3 b ∧ b < s3.heap.objs.size := fun b hb => by
    obtain ⟨o, e, _⟩ := T.obj _ _ st2 b hb
    have lt := Heap.lt_size e
    refine ⟨⟨?_, (f2 b hb).2⟩, by rw [h3, Heap.size_push]; exact Nat.lt_succ_of_lt lt⟩
    rw [← hH3, upd_ne (by rw [← hD]; exact Nat.ne_of_lt lt)]
    exact (f2 b hb).1
  have I4 := block_start I3 ok hN f3
  have pg := hg s3 H3 s3.heap.objs.size (cellsFrom (s3.heap.objs.size + 1) scope.names (cloFrom X.env.cells scope.names [])) fp
  have pe := he s3 H3 s3.heap.objs.size (cellsFrom (s3.heap.objs.size + 1) scope.names (cloFrom X.env.cells scope.names [])) fp
  have pi1 := hi1 s3 H3 s3.heap.objs.size (cellsFrom (s3.heap.objs.size + 1) scope.names (cloFrom X.env.cells scope.names [])) fp
  have pg1 := hg1 s3 H3 s3.heap.objs.size (cellsFrom (s3.heap.objs.size + 1) scope.names (cloFrom X.env.cells scope.names [])) fp
  show codeAny _ _ (.compStart (.SetComp elt [⟨tg, iter, [], 0⟩, ⟨tg1, iter1, [], 0⟩] scope pos) 0 (.ref it) (.ref D) (compEnvC scope (cellsFrom (s3.heap.objs.size + 1) scope.names (cloFrom X.env.cells scope.names [])) s3.heap.objs.size X.env)) (compPost (model X.prog X.w) X.A X.xe none (EP X pins σ Q) (.ref D) s3.heap.objs.size) { s3 with heap := pushCells (s3.heap.push { cls := .type "dict", data := .dict #[] }) scope.names }
  generalize hce : compEnvC scope (cellsFrom (s3.heap.objs.size + 1) scope.names (cloFrom X.env.cells scope.names [])) s3.heap.objs.size X.env = ce at I4 pg pe pi1 pg1 ⊢
  have cL : ce.locals = s3.heap.objs.size := by subst hce; rfl
  generalize hs4 : ({ s3 with heap := pushCells (s3.heap.push { cls := .type "dict", data := .dict #[] }) scope.names } : Shared) = s4 at I4 ⊢
  have st4 : tn 0 s4.heap := T.keep _ _ _ st2 fun b _ o e => by
    rw [← hs4]
    refine pushCells_keeps _ _ _ _ (Heap.get?_push_of_some _ ?_)
    rw [h3]
    exact Heap.get?_push_of_some _ e
  have nfp : ∀ b ∈ fp, H3 b = none := fun b hb => (f3 b hb).1.1
  have stat : ∀ {σ' : L2.St} {H' : Hp} {s' : Shared}, Inv (X.blk s3 H3 scope ce fp) [] σ' H' s' → (∀ b ∈ fp, H' b = none) → ∀ b ∈ fp, FpOk (X.blk s3 H3 scope ce fp) [] H' b := fun {σ' H' s'} I' hn b hb =>
    ⟨hn b hb, (I'.ok.exf b hb).1, I'.ok.exfs b hb, .inl hb, fun x c e => (I'.ok.exf b hb).2 x c e, fun p hp => absurd (show p ∈ ([] : List (Addr × Obj)) ++ [] from hp) (by simp)⟩
  -- the pinned source's objects, behind the turn
  have held : ∀ {F0 : List Addr} {tn0 : Nat → Heap → Prop} {i0 : Nat} {sa sb : Shared} {σ' : L2.St} {H' : Hp} {pn : List (Addr × Obj)}, Inv (X.blk s3 H3 scope ce fp) (pn ++ pinsAt F0 sa.heap) σ' H' sb → ∀ b ∈ F0, ∀ o, sa.heap.get? b = some o → sb.heap.get? b = some o ∧ H' b = none :=
    fun {F0 tn0 i0 sa sb σ' H' pn} I' b hb o e => let z := I'.pin (b, o) (List.mem_append_right _ (List.mem_append_right _ (mem_pinsAt hb e))); ⟨z.1, z.2.1⟩
  have loop : codeAny (model X.prog X.w) X.A (.compLoop (.SetComp elt [⟨tg, iter, [], 0⟩, ⟨tg1, iter1, [], 0⟩] scope pos) 0 (.ref it) (.ref D) ce) (compPost (model X.prog X.w) X.A X.xe none (EP X pins σ Q) (.ref D) s3.heap.objs.size) s4 := by
    refine sx_loop0 (hs1 ce) (fun n s' => ∃ i H', Inv (X.blk s3 H3 scope ce fp) [] (wipe σ (own.map (·.2))) H' s' ∧ tn i s'.heap ∧ (∀ b ∈ fp, H' b = none) ∧ W i n H') ?_ m0 ⟨0, H3, I4, st4, nfp, w0⟩
    rintro n s5 ⟨i, H5, I5, st5, n5, w5⟩
    rcases turn i n H5 w5 with ⟨stop, qq⟩ | ⟨go, Nx, hNx, step⟩
    · refine thnF (T.done (X.blk s3 H3 scope ce fp) rfl rfl rfl hc i [] s5 _ H5 (fun _ _ => False) I5 (stat I5 n5) st5 stop) fun r s6 ⟨hr, I6⟩ => ?_
      subst hr
      have I7 : Inv X pins σ H5 s6 := I3.call' (ch := fp) I6.os I6.base I6.hok I6.bare fun b hb => ⟨(f3 b hb).1.2.2.2.1, (f3 b hb).1.2.1, (f3 b hb).1.2.2.2.2.1, (f3 b hb).1.2.2.2.2.2⟩
      have nC : H5 s3.heap.objs.size = none := by
        have z : H5 ce.locals = none := I6.free
        rw [cL] at z
        exact z
      obtain ⟨m, hn, _⟩ := I6.loc
      have hn : s6.heap.Ns ce.locals m := hn
      rw [cL] at hn
      obtain ⟨f0, f1, f2', f3', f4, f5⟩ := I3.fpOk (Nat.le_refl _) nC
      exact ⟨m, hn, fun h'' sb => ⟨.ref D, H5, I7.turned (t' := s6.toks) (fun b o hb e => (sb.2 b hb).trans e) f0 f1 f3' f4 f5, rfl, qq⟩⟩
    · refine thnF (T.item (X.blk s3 H3 scope ce fp) rfl rfl rfl hc i [] s5 _ H5 (fun _ _ => False) I5 (stat I5 n5) st5 go) fun r s6 ⟨u, hr, h6⟩ => ?_
      subst hr
      refine thnF h6 fun _ s7 ⟨x, H7, I7, r7, y7, st7, n7⟩ => ?_
      have I7' := I7.pinned (stat I7 n7) (T.obj _ _ st7)
      refine thnF (pg.run _ s7 _ H7 x u _ I7' r7 (step x H7 y7)) fun _ s8 ⟨σ8, H8, I8, hw8, q8⟩ => ?_
      have hl8 : (wipe σ (own.map (·.2))).length = σ8.length := by rw [← hw8, wipe_length]
      have hk9 : ∀ (j : Nat) v, (wipe σ (own.map (·.2)))[j]? = some (some v) → (wipe σ8 vs1)[j]? = some (some v) := fun j v e => by
        rw [← hw8] at e
        obtain ⟨e1, e2⟩ := wipe_some e
        rw [wipe_out fun z => e2 (hv j z)]
        exact e1
      refine thnF (pi1.run _ s8 σ8 H8 _ I8 q8) fun xv s10 hx => thnF hx fun itv s11 h11 => ?_
      obtain ⟨it1, fp1, tn1, J1, H11, rfl, I11, T1, st11, f11, W1, ⟨m1, w1⟩, turn1⟩ := h11
      have stat1 : ∀ {H' : Hp}, (∀ b ∈ fp1, H' b = none) → ∀ b ∈ fp1, FpOk (X.blk s3 H3 scope ce fp) ([] ++ pinsAt fp s7.heap) H' b := fun hn b hb => ⟨hn b hb, (f11 b hb).2⟩
      have loop1 : codeAny (model X.prog X.w) X.A (.compLoop (.SetComp elt [⟨tg, iter, [], 0⟩, ⟨tg1, iter1, [], 0⟩] scope pos) 1 (.ref it1) (.ref D) ce)
          (fun r s' => match r with
            | .ok _ => ∃ m, m < n ∧ ∃ i H', Inv (X.blk s3 H3 scope ce fp) [] (wipe σ (own.map (·.2))) H' s' ∧ tn i s'.heap ∧ (∀ b ∈ fp, H' b = none) ∧ W i m H'
            | .error _ => False) s11 := by
        refine sx_loop1 (fun k s' => ∃ j H', Inv (X.blk s3 H3 scope ce fp) ([] ++ pinsAt fp s7.heap) (wipe σ8 vs1) H' s' ∧ tn1 j s'.heap ∧ (∀ b ∈ fp1, H' b = none) ∧ W1 j k H') ?_ m1 ⟨0, H11, I11.weak (wipe_length _ _) (fun j v e => (wipe_some e).1), st11, fun b hb => (f11 b hb).1, w1⟩
        rintro k s12 ⟨j, H12, I12, st12, n12, w12⟩
        rcases turn1 j k H12 w12 with ⟨stop1, nx1⟩ | ⟨go1, Nx1, hNx1, step1⟩
        · refine thnF (T1.done (X.blk s3 H3 scope ce fp) rfl rfl rfl hc j _ s12 (wipe σ8 vs1) H12 (fun _ _ => False) I12 (stat1 n12) st12 stop1) fun r s13 ⟨hr, I13⟩ => ?_
          subst hr
          obtain ⟨m', hm, w'⟩ := hNx H12 nx1
          have hp := held (tn0 := tn) (i0 := i) I13
          refine ⟨m', hm, i + 1, H12, (I13.unpinned (pins := [])).weak (hl8.trans (wipe_length σ8 vs1).symm) hk9, T.keep _ _ _ st7 fun b hb o e => (hp b hb o e).1, fun b hb => ?_, w'⟩
          obtain ⟨o, e, _⟩ := T.obj _ _ st7 b hb
          exact (hp b hb o e).2
        · refine thnF (T1.item (X.blk s3 H3 scope ce fp) rfl rfl rfl hc j _ s12 (wipe σ8 vs1) H12 (fun _ _ => False) I12 (stat1 n12) st12 go1) fun r s13 ⟨u1, hr, h13⟩ => ?_
          subst hr
          refine thnF h13 fun _ s14 ⟨x1, H14, I14, r14, y14, st14, n14⟩ => ?_
          have I14' := I14.pinned (stat1 n14) (T1.obj _ _ st14)
          refine thnF (pg1.run _ s14 (wipe σ8 vs1) H14 x1 u1 _ I14' r14 (step1 x1 H14 y14)) fun _ s15 ⟨σ15, H15, I15, hw15, q15⟩ => ?_
          refine thnF (pe.run _ s15 σ15 H15 _ I15 q15) fun z s17 ⟨yv, H17, I17, r17, zt, xs, ey, hD17, hz17, nx⟩ => ?_
          subst ey
          obtain ⟨ut, rfl⟩ : ∃ ut, z = Value.str zt ut := r17
          refine addT_ok (X := X.blk s3 H3 scope ce fp) I17 hD17 hz17 fun s18 I18 => ?_
          obtain ⟨m', hm, w'⟩ := hNx1 _ nx
          have hp := held (tn0 := tn1) (i0 := j) I18
          refine ⟨m', hm, j + 1, _, I18.unpinned.weak (by rw [← hw15, wipe_length]) (fun j v e => by rw [← hw15] at e; exact (wipe_some e).1), T1.keep _ _ _ st14 fun b hb o e => (hp b hb o e).1, fun b hb => ?_, w'⟩
          obtain ⟨o, e, _⟩ := T1.obj _ _ st14 b hb
          exact (hp b hb o e).2
      exact sx_start1 loop1 (T1.self X.A 0 _ _ _ st11 loop1)
  exact PpSet.codeAny_compStart_set loop (T.self X.A 0 _ _ _ st4 loop)
end
end Lw

/-! ## Sx5 -/
set_option maxHeartbeats 4000000
/-! t + u of any tuples; max(ns, default=d); a method by the instance's class; an instance called -/
namespace Lw
open PySem PySem.Spec PyProof.Rows L2
theorem tuple_addW0 (l b : Addr) (items items2 : Array Value) (n n2 : Nat) (dd dd2 : Option Addr) (sl sl2 : Array (Option Value)) (hc0 : items.isEmpty = true) :
    Meets (Builtin.«tuple.__add__» ⟨[.ref l, .ref b], []⟩) (fun _ R s => s.heap.get? l = some { cls := .type "tuple", dict := dd, data := .seq items n, slots := sl } ∧ s.heap.get? b = some { cls := .type "tuple", dict := dd2, data := .seq items2 n2, slots := sl2 } ∧ R (.ok (.ret (Value.ref b))) { s with heap := s.heap, toks := s.toks }) :=
  .of_wp fun prog w A R s h => by obtain ⟨hp, g, d, tk, os⟩ := s; obtain ⟨hl, hb, h⟩ := h; have f1 := AutoSeq1.idx_int; have f2 := AutoSeq1.sub_tuple_tuple; have f3 := AutoSeq1.sub_list_list; have f4 := AutoSeq1.sub_tuple_list; have f5 := AutoSeq1.sub_list_tuple; wp_walk using wpAny_loadPart' hl, wpAny_loadPart' hb; exact ⟨_, rfl, h⟩
theorem cat_tup0 {prog : Program} {w : World} {A : Around} {E : Value → Shared → Prop} {s : Shared} {t b : Addr} {ws : List Value} {Q : Value → Shared → Prop} (ht : IsTup s.heap t #[]) (hb : IsTup s.heap b ws.toArray) (h : Q (.ref b) s) : wpAny (model prog w) A (binaryOp .Add (.ref t) (.ref b)) Q E s := by
  obtain ⟨⟨cls, dd, data, sl⟩, ho, hc, n, hd⟩ := id ht
  obtain ⟨⟨cls2, dd2, data2, sl2⟩, ho2, hc2, n2, hd2⟩ := id hb
  simp only at hc hd hc2 hd2
  subst hc hd hc2 hd2
  exact concat_meets ⟨_, ho, rfl⟩ ⟨_, ho2, rfl⟩ noFill_tuple_add seq_tuple_add PySem.F.slot_tuple_add PySem.F.entry_tuple_add (PySem.F.args_tuple_add_2 _ _)
    (tuple_addW0 t b #[] ws.toArray n n2 dd dd2 sl sl2 rfl) ⟨ho, ho2, h⟩
/-- t + u, one of them empty -/
def rCat0 (K : PySem.W.Frag) : R2 := fun x y H Q => ∃ a b xs ys, x = .ref a ∧ y = .ref b ∧ SqT K H a xs ∧ SqT K H b ys ∧ (xs = [] ∨ ys = []) ∧ xs.length + ys.length ≤ sizeLine ∧ ∀ p, SqT K H p (xs ++ ys) → Q (.ref p) H
section
variable {X : Cx}
theorem op_cat0 : OpR X (binaryOp .Add) (rCat0 X.K) := by
  intro pins s σ H x y v u Q I rx ry h
  obtain ⟨a, b, xs, ys, rfl, rfl, ha, hb, hz, hs, q⟩ := h
  cases xs with
  | nil =>
    cases rx
    cases ry
    obtain ⟨its, r1, p1, _⟩ := I.tuple ha
    obtain ⟨its2, r2, p2, _⟩ := I.tuple hb
    cases r1
    exact cat_tup0 p1 p2 ⟨.ref b, H, I, rfl, q b hb⟩
  | cons z zs =>
    have e : ys = [] := hz.resolve_left (fun q => nomatch q)
    subst e
    exact op_catT pins s σ H _ _ _ _ _ I rx ry ⟨a, b, z :: zs, [], rfl, rfl, ha, hb, (fun q => nomatch q), hs, fun _ => q a (by rw [List.append_nil]; exact ha), fun q => absurd rfl q⟩
/-! ### max(ns, default=d) -/
def topI (d : Int) : List Int → Int
  | [] => d
  | n :: r => r.foldl max n
def rMaxDef (K : PySem.W.Frag) : List V → List V → Hp → VK → Prop := fun vs zs H Q => ∃ (a : Addr) (ns : List Int) (d : Int), vs = [V.ref a] ∧ zs = [V.int d] ∧ SqL K H a (ns.map V.int) ∧ Q (.int (topI d ns)) H
theorem ints_read {h : Heap} : ∀ {its : List Value} {ns : List Int}, IntsAre its ns → ReadsAll h its (ns.map PyData.int) []
  | _, _, .nil => .nil
  | _, _, .cons n t r => .cons (as := []) (.int n t) (ints_read r)
theorem ints_alike (ns : List Int) : PySem.W.AlikeAll (ns.map PyData.int) := by
  refine ⟨fun x hx y hy => ?_, fun x hx => ?_⟩
  · obtain ⟨i, _, rfl⟩ := List.mem_map.mp hx
    obtain ⟨j, _, rfl⟩ := List.mem_map.mp hy
    first | rfl | simp [PySem.SeqAt.alike] | simp [alike]
  · obtain ⟨i, _, rfl⟩ := List.mem_map.mp hx
    exact fun q => nomatch q
theorem ints_depth : ∀ ns : List Int, PyData.depthAll (ns.map PyData.int) = 0
  | [] => rfl
  | n :: r => by
    simp only [List.map_cons, PyData.depthAll, PyData.depth, ints_depth r]
    rfl
theorem cr_maxDef (hc : X.calm = true) (hu : X.A.units + 64 < cLine) : CallRK X (.builtin "max") [Str.ofString "default"] (rMaxDef X.K) := by
  intro pins s σ H xs zs us ws Q I rx rz h
  obtain ⟨a, ns, d, rfl, rfl, hs, q⟩ := h
  obtain ⟨its, rv, hl, _⟩ := I.list hs
  rw [Vals.ref1 rx]
  obtain ⟨t, rfl⟩ : ∃ t, ws = [Value.int d t] := by
    cases rz with
    | cons h r =>
      cases r
      obtain ⟨t, rfl⟩ := h
      exact ⟨t, rfl⟩
  have li : s.heap.IsList a its.toArray := hl.isList
  refine PySem.W.max_list_default (xs := ns.map PyData.int) (as := []) (I.ok.hd hc) li (ints_read rv.ints) (ints_alike ns) (by rw [ints_depth]; omega) (fun e h' tk hk => ?_) fun y ys i v h' tk bs e hv hr hk => ?_
  · have e : ns = [] := by simpa using e
    subst e
    exact ⟨.int d, H, I.kept hk, ⟨t, rfl⟩, q⟩
  · cases ns with
    | nil => cases e
    | cons n r =>
      cases e
      rw [PySem.W.maxD_ints] at hr
      cases hr with
      | int _ t2 => exact ⟨.int _, H, I.kept hk, ⟨t2, rfl⟩, q⟩
/-! ### a method by the instance's class -/
variable {k j : Nat} {ps : List Str} {sp : Sp} {spc : Nat → Sp} {Kd : Nat → Addr → Prop} {m : Str} {o e fe : Expr} {es : List Expr} {kws : List Keyword} {ta tf : TE} {t tk : TA} {pos apos : Pos} {Kn : Addr → Prop}
/-- o.m(e, ..), o an instance of one of some classes (Kd: of which kind), each with its own promise -/
def tMeD (Kd : Nat → Addr → Prop) (m : Str) (spc : Nat → Sp) (ta : TE) (t : TA) : TE := fun σ H Q => ta σ H fun x H1 => ∃ a C dx fs n, x = .ref a ∧ H1 a = some (.ins C dx fs) ∧ Kd n C ∧ fs.lookup m = none ∧ t σ H1 fun vs H2 => spc n (x :: vs) H2 Q E0
theorem pe_meD {pl : Sem Bool} (he : PE X o ta) (M : ∀ n C, Kd n C → Cls X.K C ∧ Mt X.prog X.w X.K X.mg X.base k C m ps (spc n)) (hr : RoomG j X.A) (hk : k ≤ j) (ha : PA X (e :: es) t)
    (hst : starEach (e :: es) X.env = (false, eval e X.env) :: starEach es X.env := by rfl) (hpl : (backTo pos (starEach es X.env)).any (·.1) = false := by rfl)
    (ht : eval (.Call (.Attribute o m apos) (e :: es) [] pos) X.env = (do
      let ov ← eval o X.env
      standAt apos.atName
      let (f, first) ← holding [ov] (getMethod ov m pl)
      callWith pos f first (backTo pos (starEach (e :: es) X.env)) (backToKw pos (keywordEach [] X.env))) := by rfl) :
    PE X (.Call (.Attribute o m apos) (e :: es) [] pos) (tMeD Kd m spc ta t) := by
  refine ⟨fun pins s σ H Q I h => ?_⟩
  refine PySem.W.methodCall_KW (pl := pl) (thn (he.run pins s σ H _ I h) fun u s1 ⟨x, H1, I1, rx, a, C, dx, fs, n, ex, ea, kn, l, q⟩ => ?_) ht
  subst ex
  obtain rfl : u = Value.ref a := rx
  obtain ⟨c, M⟩ := M n C kn
  obtain ⟨f, fd, F, hm, b, _⟩ := M.ex
  refine getmeth_ok I1 ea c hm l ?_
  refine PySem.W.callWith_K (first := [.ref a]) (h₀ := X.base) I.ok.mod.kin hm.kp (thn (ha.run pos pins s1 σ H1 _ I1 q) fun us s2 ⟨vs, H2, I2, r, q2⟩ => ⟨I2.kIn, ?_⟩) hst hpl
  have r2 : Vals (V.ref a :: vs) (Value.ref a :: us) := .cons rfl r
  exact wpAny_call (codeAny_mono (run_at F (hr.mono hk) rfl (b (Value.ref a :: us) (by rw [← r2.length]; exact F.len _ _ _ _ q2)) I2 r2 q2) fun r s' z => by
    rcases r with e | (v | _ | _ | _) <;> exact z)
/-! ### an instance called -/
/-- the def at g, of one parameter beside self, is what calling an instance of C runs -/
structure CallD (P : Program) (w : World) (K : PySem.W.Frag) (mg : Str → Option Value) (base : Heap) (k : Nat) (C : Addr) (p1 p2 : Str) (sp : Sp) : Prop where
  ex : ∃ (g : Addr) (fd : FuncData), StX.CallO K C g ∧ FnG P w K mg base k g fd [p1, p2] sp ∧ (∀ u v : Value, bindArgs fd ⟨[u, v], []⟩ = pure ([p1, p2].zip [u, v])) ∧ ∀ u v : Value, bindArgs fd ⟨[u], [(p2, v)]⟩ = pure ([p1, p2].zip [u, v])
def tCallD (Kn : Addr → Prop) (sp : Sp) (tf : TE) (t : TA) : TE := fun σ H Q => tf σ H fun y H1 => ∃ a, y = V.ref a ∧ t σ H1 fun vs H2 => ∃ C dx fs, H2 a = some (.ins C dx fs) ∧ Kn C ∧ sp (y :: vs) H2 Q E0
theorem pe_callD {p1 p2 : Str} (hf : PE X fe tf) (c : ∀ C, Kn C → CallD X.prog X.w X.K X.mg X.base k C p1 p2 sp) (hr : RoomG j X.A) (hk : k ≤ j) (ha : PA X (e :: es) t)
    (ht : eval (.Call fe (e :: es) [] pos) X.env = (do callWith pos (← eval fe X.env) [] (backTo pos (starEach (e :: es) X.env)) (backToKw pos (keywordEach [] X.env))) := by rfl)
    (he : starEach (e :: es) X.env = (false, eval e X.env) :: starEach es X.env := by rfl) (hpl : (backTo pos (starEach es X.env)).any (·.1) = false := by rfl) : PE X (.Call fe (e :: es) [] pos) (tCallD Kn sp tf t) := by
  refine ⟨fun pins s σ H Q I h => ?_⟩
  refine Call_ (thn (hf.run pins s σ H _ I h) fun u s1 ⟨y, H1, I1, ry, a, ey, q⟩ => ?_) ht
  subst ey
  obtain rfl : u = Value.ref a := ry
  refine StX.callO_with (thn (ha.run pos pins s1 σ H1 _ I1 q) fun us s2 ⟨vs, H2, I2, r, C, dx, fs, hi, kn, q2⟩ => ?_) he hpl
  obtain ⟨ox, od, J, hd⟩ := StX.insC_at I2 (.inr ⟨dx, fs, hi⟩)
  obtain ⟨g, fd, co, F, b, _⟩ := (c C kn).ex
  have r2 : Vals (V.ref a :: vs) (Value.ref a :: us) := .cons rfl r
  obtain ⟨v, rfl⟩ : ∃ v, us = [v] := by
    have l2 := F.len _ _ _ _ q2
    have l3 := r.length
    simp at l2
    match us, (show us.length = 1 by omega) with
    | [v], _ => exact ⟨v, rfl⟩
  refine ⟨⟨C, ox, od, J, hd⟩, wpAny_call (PySem.W.kco_code I2.kIn J hd co.at_ co.fn co.fi (codeAny_mono (run_at F (hr.mono hk) rfl (b _ _) I2 r2 q2) fun r s' z => ?_))⟩
  rcases r with e | (v | _ | _ | _) <;> exact z
/-- by its name -/
theorem pe_callDk {p1 p2 : Str} (hf : PE X fe tf) (c : ∀ C, Kn C → CallD X.prog X.w X.K X.mg X.base k C p1 p2 sp) (hr : RoomG j X.A) (hk : k ≤ j) (hkw : PK X kws tk)
    (hall : (backToKw pos (keywordEach kws X.env)).all (·.1.isSome) = true := by rfl) (hks : (backToKw pos (keywordEach kws X.env)).filterMap (·.1) = [p2] := by rfl)
    (hpl : ((backTo pos (starEach [] X.env)).any (·.1) || (backToKw pos (keywordEach kws X.env)).any (·.1.isNone)) = false := by rfl)
    (ht : eval (.Call fe [] kws pos) X.env = (do callWith pos (← eval fe X.env) [] (backTo pos (starEach [] X.env)) (backToKw pos (keywordEach kws X.env))) := by rfl) : PE X (.Call fe [] kws pos) (tCallD Kn sp tf tk) := by
  refine ⟨fun pins s σ H Q I h => ?_⟩
  rw [ht]
  refine wpAny_bind (thn (hf.run pins s σ H _ I h) fun u s1 ⟨y, H1, I1, ry, a, ey, q⟩ => ?_)
  subst ey
  obtain rfl : u = Value.ref a := ry
  unfold callWith
  refine wpAny_bind (wpAny_holding (PyProof.Rows.evalArgs_kw2_nil hall (thn (hkw.run pos pins s1 σ H1 _ I1 q) fun us s2 ⟨vs, H2, I2, r, C, dx, fs, hi, kn, q2⟩ => ?_)))
  refine wpAny_bind (wpAny_standAt ?_)
  obtain ⟨ox, od, J, hd⟩ := StX.insC_at I2 (.inr ⟨dx, fs, hi⟩)
  obtain ⟨g, fd, co, F, _, b⟩ := (c C kn).ex
  have r2 : Vals (V.ref a :: vs) (Value.ref a :: us) := .cons rfl r
  obtain ⟨v, rfl⟩ : ∃ v, us = [v] := by
    have l2 := F.len _ _ _ _ q2
    have l3 := r.length
    simp at l2
    match us, (show us.length = 1 by omega) with
    | [v], _ => exact ⟨v, rfl⟩
  have L := PySem.W.kco_keeper (M := model X.prog X.w) J hd
  rw [hks]
  simp only [hpl]
  refine wpAny_bind (L.here ?_)
  have h₁ : wpAny (model X.prog X.w) X.A (call (.ref a) ([] ++ []) ([p2].zip [v])) (EP X pins σ Q) X.xe s2 := wpAny_call (PySem.W.kco_code I2.kIn J hd co.at_ co.fn co.fi (codeAny_mono (run_at F (hr.mono hk) rfl (b _ _) I2 r2 q2) fun r s' z => by
    rcases r with e | (v | _ | _ | _) <;> exact z))
  exact wpAny_bind (wpAny_mono (wpAny_operateT h₁) (fun r s₂ hr => wpAny_bind (wpAny_holding (wpAny_point (wpAny_pure hr)))) fun _ _ y => y)
end
end Lw

/-! ## StB -/
set_option maxHeartbeats 1000000
namespace Lw
open PySem PySem.Spec PyProof.Rows L2
open Fm (cf Asc Nm)
abbrev s_check_name : Stmt := topS 21
abbrev n_check_name : List Str := ["value"]
theorem sc_check_name : FnScope n_check_name ["value"] (defScope s_check_name) := ⟨rfl, rfl, rfl, by decide +kernel, rfl, by decide +kernel, by decide +kernel⟩
abbrev s__at : Stmt := topS 68
abbrev n__at : List Str := ["array", "index"]
theorem sc__at : FnScope n__at ["array", "index"] (defScope s__at) := ⟨rfl, rfl, rfl, by decide +kernel, rfl, by decide +kernel, by decide +kernel⟩
abbrev s_Statement_init : Stmt := inClass (topS 51) 1
abbrev n_Statement_init : List Str := ["self", "lines", "forms", "moves"]
theorem sc_Statement_init : FnScope n_Statement_init ["self", "lines", "forms", "moves"] (defScope s_Statement_init) := ⟨rfl, rfl, rfl, by decide +kernel, rfl, by decide +kernel, by decide +kernel⟩
abbrev s_Let_init : Stmt := inClass (topS 52) 1
abbrev n_Let_init : List Str := ["self", "field", "form"]
theorem sc_Let_init : FnScopeC n_Let_init ["self", "field", "form"] (defScope s_Let_init) := ⟨rfl, rfl, rfl, by decide +kernel, rfl, by decide +kernel, by decide +kernel, by decide +kernel⟩
abbrev s_Copy_init : Stmt := inClass (topS 53) 1
abbrev n_Copy_init : List Str := ["self", "target", "to", "source", "start", "amount", "line"]
theorem sc_Copy_init : FnScopeC n_Copy_init ["self", "target", "to", "source", "start", "amount"] (defScope s_Copy_init) := ⟨rfl, rfl, rfl, by decide +kernel, rfl, by decide +kernel, by decide +kernel, by decide +kernel⟩
abbrev s_Up_init : Stmt := inClass (topS 54) 1
abbrev n_Up_init : List Str := ["self", "target", "to", "source", "start", "amount"]
theorem sc_Up_init : FnScopeC n_Up_init ["self", "target", "to", "source", "start", "amount"] (defScope s_Up_init) := ⟨rfl, rfl, rfl, by decide +kernel, rfl, by decide +kernel, by decide +kernel, by decide +kernel⟩
abbrev s_Down_init : Stmt := inClass (topS 55) 1
abbrev n_Down_init : List Str := ["self", "target", "to", "source", "start", "amount"]
theorem sc_Down_init : FnScopeC n_Down_init ["self", "target", "to", "source", "start", "amount"] (defScope s_Down_init) := ⟨rfl, rfl, rfl, by decide +kernel, rfl, by decide +kernel, by decide +kernel, by decide +kernel⟩
abbrev s_Apart_init : Stmt := inClass (topS 56) 1
abbrev n_Apart_init : List Str := ["self", "target", "to", "source", "start", "amount"]
theorem sc_Apart_init : FnScopeC n_Apart_init ["self", "target", "to", "source", "start", "amount"] (defScope s_Apart_init) := ⟨rfl, rfl, rfl, by decide +kernel, rfl, by decide +kernel, by decide +kernel, by decide +kernel⟩
abbrev s_Reverse_init : Stmt := inClass (topS 57) 1
abbrev n_Reverse_init : List Str := ["self", "array", "start", "amount"]
theorem sc_Reverse_init : FnScopeC n_Reverse_init ["self", "array", "start", "amount"] (defScope s_Reverse_init) := ⟨rfl, rfl, rfl, by decide +kernel, rfl, by decide +kernel, by decide +kernel, by decide +kernel⟩
abbrev s_Swap_init : Stmt := inClass (topS 58) 1
abbrev n_Swap_init : List Str := ["self", "first", "at", "second", "start", "amount", "line"]
theorem sc_Swap_init : FnScopeC n_Swap_init ["self", "first", "at", "second", "start", "amount"] (defScope s_Swap_init) := ⟨rfl, rfl, rfl, by decide +kernel, rfl, by decide +kernel, by decide +kernel, by decide +kernel⟩
abbrev s_Fill_init : Stmt := inClass (topS 59) 1
abbrev n_Fill_init : List Str := ["self", "array", "start", "amount", "letter"]
theorem sc_Fill_init : FnScopeC n_Fill_init ["self", "array", "start", "amount", "letter"] (defScope s_Fill_init) := ⟨rfl, rfl, rfl, by decide +kernel, rfl, by decide +kernel, by decide +kernel, by decide +kernel⟩
abbrev s_Resize_init : Stmt := inClass (topS 60) 1
abbrev n_Resize_init : List Str := ["self", "array", "length"]
theorem sc_Resize_init : FnScopeC n_Resize_init ["self", "array", "length"] (defScope s_Resize_init) := ⟨rfl, rfl, rfl, by decide +kernel, rfl, by decide +kernel, by decide +kernel, by decide +kernel⟩
abbrev s_Statement_eq : Stmt := inClass (topS 51) 2
abbrev n_Statement_eq : List Str := ["self", "other"]
theorem sc_Statement_eq : FnScope n_Statement_eq ["self", "other"] (defScope s_Statement_eq) := ⟨rfl, rfl, rfl, by decide +kernel, rfl, by decide +kernel, by decide +kernel⟩
abbrev s_Statement_str : Stmt := inClass (topS 51) 3
abbrev n_Statement_str : List Str := ["self"]
theorem sc_Statement_str : FnScope n_Statement_str ["self"] (defScope s_Statement_str) := ⟨rfl, rfl, rfl, by decide +kernel, rfl, by decide +kernel, by decide +kernel⟩
abbrev s_Statement_repr : Stmt := inClass (topS 51) 4
abbrev n_Statement_repr : List Str := ["self"]
theorem sc_Statement_repr : FnScope n_Statement_repr ["self"] (defScope s_Statement_repr) := ⟨rfl, rfl, rfl, by decide +kernel, rfl, by decide +kernel, by decide +kernel⟩
/-! ## statements -/
/-- the classes: Let, Copy, Up, Down, Apart, Reverse, Swap, Fill, Resize, If, Statement -/
structure Sz where
  form : Addr
  j : Nat → Addr
def fldA : List Str := ["lines", "forms", "size", "moves", "ifs", "nesting", "field", "form", "target", "to", "source", "start", "amount", "array", "first", "at", "second", "letter", "length"]
def wordK : Nat → Str
  | 0 => "let"
  | 1 => "copy"
  | 2 => "up"
  | 3 => "down"
  | 4 => "apart"
  | 5 => "reverse"
  | 6 => "swap"
  | 7 => "fill"
  | _ => "resize"
def nameK : Nat → Str
  | 0 => "Let"
  | 1 => "Copy"
  | 2 => "Up"
  | 3 => "Down"
  | 4 => "Apart"
  | 5 => "Reverse"
  | 6 => "Swap"
  | 7 => "Fill"
  | 8 => "Resize"
  | 9 => "If"
  | _ => "Statement"
/-- of which classes one of this kind is an instance -/
def sortK (κ j : Nat) : Bool := decide (κ = j) || ((decide (j = 1) && (decide (κ = 2) || (decide (κ = 3) || decide (κ = 4)))) || decide (j = 10))
structure Sf (K : PySem.W.Frag) (mg : Str → Option Value) (Z : Sz) : Prop where
  cls : ∀ κ, κ < 9 → Cls K (Z.j κ)
  no : ∀ κ, κ < 9 → ∀ f ∈ fldA, NoAttr K (Z.j κ) f
  con : ∀ κ, κ < 9 → ∃ u, Con K (Z.j κ) "WORD" (.str (wordK κ)) u
  isc : ∀ κ, κ < 9 → C8.InsC K (Z.j κ)
  kit : ∀ κ j, κ < 9 → j < 11 → PySem.W.kitOne K (.ref (Z.j κ)) (.ref (Z.j j)) = some (sortK κ j)
  g : ∀ j, j < 11 → ∃ u, mg (nameK j) = some u ∧ RelV (.ref (Z.j j)) u
structure Ts (mg : Str → Option Value) : Prop where
  b_super : mg "super" = none
def bF (q r : Addr) (mv : Int) : List (Str × V) := [("lines", .ref q), ("forms", .ref r), ("size", .int 1), ("moves", .int mv), ("ifs", .int 0), ("nesting", .int 0)]
/-- a form, as lines say it -/
structure GF (C : Addr) (H : Hp) (f : Addr) (ts : Tms) : Prop where
  at_ : FormAt C H f ts
  bd : Bd 60 1000 ts
  sy : SyB ts
theorem GF.same {C : Addr} {H H' : Hp} {f : Addr} {ts : Tms} (h : GF C H f ts) (s : Same H H') : GF C H' f ts := ⟨h.at_.same s, h.bd, h.sy⟩
def atL (n : Str) (ts : Tms) : Str := (((Str.empty ++ n) ++ Str.ofString "[") ++ Fm.textS ts) ++ Str.ofString "]"
def spAt (C : Addr) : Sp := fun vs H Q _ => ∃ (n : Str) (f : Addr) (ts : Tms), vs = [.str n, .ref f] ∧ n.length ≤ 8 ∧ GF C H f ts ∧ ∀ H', Same H H' → Q (.str (atL n ts)) H'
def spName1 : Sp := fun vs H Q _ => ∃ z : Str, vs = [.str z] ∧ (Tr.str z).name = true ∧ z.length ≤ 8 ∧ ∀ H', Same H H' → Q .non H'
def spSInit (K : PySem.W.Frag) (Z : Sz) : Sp := fun vs H Q _ => ∃ (x dx q r : Addr) (mv : Int) (κ : Nat), vs = [.ref x, .ref q, .ref r, .int mv] ∧ H x = some (.ins (Z.j κ) dx []) ∧ κ < 9 ∧ ∀ H', OffP x H H' → H' x = some (.ins (Z.j κ) dx (bF q r mv)) → Q .non H'
/-- a statement of this kind, with its line and further fields -/
structure StAt (Z : Sz) (H : Hp) (a : Addr) (κ : Nat) (line : Str) (fs : List (Str × V)) : Prop where
  ex : ∃ dx q r mv, H a = some (.ins (Z.j κ) dx (bF q r mv ++ fs)) ∧ H q = some (.tup [.str line])
theorem StAt.same {Z : Sz} {H H' : Hp} {a : Addr} {κ : Nat} {line : Str} {fs : List (Str × V)} (h : StAt Z H a κ line fs) (s : Same H H') : StAt Z H' a κ line fs := by
  obtain ⟨dx, q, r, mv, e, f⟩ := h.ex
  exact ⟨dx, q, r, mv, s _ _ e, s _ _ f⟩
def lineLet (n : Str) (ts : Tms) : Str := ((((Str.empty ++ wordK 0) ++ Str.ofString " ") ++ n) ++ Str.ofString " = ") ++ Fm.textS ts
def lineMv (w n1 : Str) (t1 : Tms) (n2 : Str) (t2 t3 : Tms) : Str := (((((((Str.empty ++ w) ++ Str.ofString " ") ++ atL n1 t1) ++ Str.ofString " ") ++ atL n2 t2) ++ Str.ofString " (") ++ Fm.textS t3) ++ Str.ofString ")"
def lineRev (w n1 : Str) (t1 t2 : Tms) : Str := (((((Str.empty ++ w) ++ Str.ofString " ") ++ atL n1 t1) ++ Str.ofString " (") ++ Fm.textS t2) ++ Str.ofString ")"
def lineFill (n1 : Str) (t1 t2 : Tms) (i : Int) : Str := ((((((Str.empty ++ wordK 7) ++ Str.ofString " ") ++ atL n1 t1) ++ Str.ofString " (") ++ Fm.textS t2) ++ Str.ofString ") ") ++ toString i
def lineRes (n : Str) (ts : Tms) : Str := (((((Str.empty ++ wordK 8) ++ Str.ofString " ") ++ n) ++ Str.ofString " (") ++ Fm.textS ts) ++ Str.ofString ")"
def nmOk (z : Str) : Prop := (Tr.str z).name = true ∧ z.length ≤ 8
def spLet (Z : Sz) : Sp := fun vs H Q _ => ∃ (x dx : Addr) (n : Str) (f : Addr) (ts : Tms), vs = [.ref x, .str n, .ref f] ∧ H x = some (.ins (Z.j 0) dx []) ∧ nmOk n ∧ GF Z.form H f ts ∧ ∀ H', OffP x H H' → StAt Z H' x 0 (lineLet n ts) [("field", .str n), ("form", .ref f)] → Q .non H'
def mvF (p1 p2 p3 p4 p5 n1 : Str) (f1 : Addr) (n2 : Str) (f2 f3 : Addr) : List (Str × V) := [(p1, .str n1), (p2, .ref f1), (p3, .str n2), (p4, .ref f2), (p5, .ref f3)]
def spMv (Z : Sz) (κ : Nat) (p1 p2 p3 : Str) : Sp := fun vs H Q _ => ∃ (x dx : Addr) (n1 : Str) (f1 : Addr) (n2 : Str) (f2 f3 : Addr) (t1 t2 t3 : Tms), vs = [.ref x, .str n1, .ref f1, .str n2, .ref f2, .ref f3] ∧ H x = some (.ins (Z.j κ) dx []) ∧ nmOk n1 ∧ nmOk n2 ∧ GF Z.form H f1 t1 ∧ GF Z.form H f2 t2 ∧ GF Z.form H f3 t3 ∧
  ∀ H', OffP x H H' → StAt Z H' x κ (lineMv (wordK κ) n1 t1 n2 t2 t3) (mvF p1 p2 p3 "start" "amount" n1 f1 n2 f2 f3) → Q .non H'
/-- Copy, and what is said of its kinds -/
def spCopy (Z : Sz) : Sp := fun vs H Q E => ∃ κ, 1 ≤ κ ∧ κ ≤ 4 ∧ spMv Z κ "target" "to" "source" vs H Q E
def spRev (Z : Sz) : Sp := fun vs H Q _ => ∃ (x dx : Addr) (n1 : Str) (f1 f2 : Addr) (t1 t2 : Tms), vs = [.ref x, .str n1, .ref f1, .ref f2] ∧ H x = some (.ins (Z.j 5) dx []) ∧ nmOk n1 ∧ GF Z.form H f1 t1 ∧ GF Z.form H f2 t2 ∧
  ∀ H', OffP x H H' → StAt Z H' x 5 (lineRev (wordK 5) n1 t1 t2) [("array", .str n1), ("start", .ref f1), ("amount", .ref f2)] → Q .non H'
def spFill (Z : Sz) : Sp := fun vs H Q _ => ∃ (x dx : Addr) (n1 : Str) (f1 f2 : Addr) (t1 t2 : Tms) (i : Int), vs = [.ref x, .str n1, .ref f1, .ref f2, .int i] ∧ H x = some (.ins (Z.j 7) dx []) ∧ nmOk n1 ∧ GF Z.form H f1 t1 ∧ GF Z.form H f2 t2 ∧ i.natAbs < 2 ^ 200 ∧
  ∀ H', OffP x H H' → StAt Z H' x 7 (lineFill n1 t1 t2 i) [("array", .str n1), ("start", .ref f1), ("amount", .ref f2), ("letter", .int i)] → Q .non H'
def spRes (Z : Sz) : Sp := fun vs H Q _ => ∃ (x dx : Addr) (n : Str) (f : Addr) (ts : Tms), vs = [.ref x, .str n, .ref f] ∧ H x = some (.ins (Z.j 8) dx []) ∧ nmOk n ∧ GF Z.form H f ts ∧ ∀ H', OffP x H H' → StAt Z H' x 8 (lineRes n ts) [("array", .str n), ("length", .ref f)] → Q .non H'
theorem ilog {i : Int} (h : i.natAbs < 2 ^ 200) : i.natAbs.log2 < 1920 := Nat.lt_of_lt_of_le (PySem.Flt.log2_lt_of (by decide) h) (by decide)
theorem ilen {i : Int} (h : i.natAbs < 2 ^ 200) : (Str.ofString (toString i)).length ≤ 1921 := int_text_len_1921 (ilog h)
theorem wordK_len (κ : Nat) : (wordK κ).length ≤ 8 := by
  unfold wordK
  split <;> decide
theorem emp_len : Str.empty.length = 0 := by decide
theorem text_le {C : Addr} {H : Hp} {f : Addr} {ts : Tms} (h : GF C H f ts) : (Fm.textS ts).length ≤ 231610 := Nat.le_trans (text_len h.bd h.sy) (by decide)
theorem atL_len {C : Addr} {H : Hp} {n : Str} {f : Addr} {ts : Tms} (hn : n.length ≤ 8) (h : GF C H f ts) : (atL n ts).length ≤ 231630 := by
  have := text_le h
  unfold atL
  rw [strLen_append, strLen_append, strLen_append, strLen_append, emp_len]
  have e1 : (Str.ofString "[").length = 1 := by decide
  have e2 : (Str.ofString "]").length = 1 := by decide
  omega
theorem l_sp : (Str.ofString " ").length = 1 := by decide
theorem l_ob : (Str.ofString "[").length = 1 := by decide
theorem l_cb : (Str.ofString "]").length = 1 := by decide
theorem l_op : (Str.ofString " (").length = 2 := by decide
theorem l_cp : (Str.ofString ")").length = 1 := by decide
theorem l_cs : (Str.ofString ") ").length = 2 := by decide
theorem l_eq : (Str.ofString " = ").length = 3 := by decide
theorem l_st : (Str.ofString "Statement(").length = 10 := by decide
section
variable {P : Program} {w : World} {K : PySem.W.Frag} {mg : Str → Option Value} {base : Heap} {Z : Sz}
theorem ok_check_name {f : Addr} {fd : FuncData} (F : Fun K "check_name" "check_name" s_check_name f fd) (c_is_name : Cal P w K mg base 1 "is_name" ["value"] (spB K Tr.name)) : FnG P w K mg base 2 f fd ["value"] spName1 := by
  refine okG F sc_check_name (fun vs H Q E h => ?_) (fun cdv A outer s H vs Q hr h => ?_)
  · obtain ⟨z, rfl, _⟩ := h
    rfl
  · obtain ⟨z, rfl, hn, hl, k⟩ := h
    refine ⟨_, (pss_one (ps_if (pt_not (pt_val (pe_c c_is_name hr (by decide) rfl (pa_cons (pv 0) pa_nil))))
    (pss_one ps_dead)
    pss_nil)), ?_⟩
    refine ⟨_, rfl, _, _, rfl, .str z (by omega), fun H2 s2 => ?_⟩
    rw [hn]
    exact ⟨true, rfl, iteF (k H2 s2)⟩
theorem ok_at {f : Addr} {fd : FuncData} (F : Fun K "_at" "_at" s__at f fd) (T : Ta mg) (M_str : Mt P w K mg base 2 Z.form "__str__" ["self"] (spStr Z.form)) : FnG P w K mg base 7 f fd ["array", "index"] (spAt Z.form) := by
  refine okG F sc__at (fun vs H Q E h => ?_) (fun cdv A outer s H vs Q hr h => ?_)
  · obtain ⟨n, f, ts, rfl, _⟩ := h
    rfl
  · obtain ⟨n, f, ts, rfl, hn, h, k⟩ := h
    refine ⟨_, (pss_one (ps_ret (pe_joined (PJ.cons (pe_fmt (pv 0)) (PJ.cons pe_str (PJ.cons (pe_fmt (pe_callTy (call_strO M_str hr (by decide)) (by rfl) T.b_str (by decide +kernel) (pa_cons (pv 1) pa_nil))) (PJ.cons pe_str PJ.nil))))))), ?_⟩
    have tl := text_le h
    refine ⟨_, rfl, .inl ⟨n, rfl, by (refine Nat.le_trans ?_ (show 1000000 ≤ sizeLine by decide); (try simp only [strLen_append, emp_len, l_sp, l_ob, l_cb, l_op, l_cp, l_cs, l_eq, l_st]); omega), n, rfl, by (refine Nat.le_trans ?_ (show 1000000 ≤ sizeLine by decide); (try simp only [strLen_append, emp_len, l_sp, l_ob, l_cb, l_op, l_cp, l_cs, l_eq, l_st]); omega), ?_⟩⟩
    refine ⟨_, rfl, by (refine Nat.le_trans ?_ (show 1000000 ≤ sizeLine by decide); (try simp only [strLen_append, emp_len, l_sp, l_ob, l_cb, l_op, l_cp, l_cs, l_eq, l_st]); omega), ?_⟩
    refine ⟨_, rfl, f, rfl, h.at_.is, f, ts, rfl, h.at_, h.bd, h.sy, fun H2 s2 => ⟨⟨_, rfl⟩, ?_⟩⟩
    exact .inl ⟨_, rfl, by (refine Nat.le_trans ?_ (show 1000000 ≤ sizeLine by decide); (try simp only [strLen_append, emp_len, l_sp, l_ob, l_cb, l_op, l_cp, l_cs, l_eq, l_st]); omega), _, rfl, by (refine Nat.le_trans ?_ (show 1000000 ≤ sizeLine by decide); (try simp only [strLen_append, emp_len, l_sp, l_ob, l_cb, l_op, l_cp, l_cs, l_eq, l_st]); omega), _, rfl, by (refine Nat.le_trans ?_ (show 1000000 ≤ sizeLine by decide); (try simp only [strLen_append, emp_len, l_sp, l_ob, l_cb, l_op, l_cp, l_cs, l_eq, l_st]); omega), k H2 s2⟩
theorem ok_Statement_init {f : Addr} {fd : FuncData} (F : Fun K "__init__" "Statement.__init__" s_Statement_init f fd) (Z0 : Sf K mg Z) : FnG P w K mg base 1 f fd ["self", "lines", "forms", "moves"] (spSInit K Z) := by
  refine okG F sc_Statement_init (fun vs H Q E h => ?_) (fun cdv A outer s H vs Q hr h => ?_)
  · obtain ⟨x, dx, q, r, mv, κ, rfl, _⟩ := h
    rfl
  · obtain ⟨x, dx, q, r, mv, κ, rfl, hx, hκ, k⟩ := h
    refine ⟨_, (pss_cons (ps_fld (pv 0) (pv 1) rfl)
  (pss_cons (ps_fld (pv 0) (pv 2) rfl)
  (pss_cons (ps_fld (pv 0) pe_int rfl)
  (pss_cons (ps_fld (pv 0) (pv 3) rfl)
  (pss_cons (ps_fld (pv 0) pe_int rfl)
  (pss_one (ps_fld (pv 0) pe_int rfl))))))), ?_⟩
    have no : ∀ f ∈ fldA, NoAttr K (Z.j κ) f := Z0.no κ hκ
    have cl := Z0.cls κ hκ
    refine ⟨_, rfl, _, rfl, x, _, dx, _, rfl, hx, cl, no _ (by decide +kernel), (by show 0 < 1000; decide), ?_⟩
    refine ⟨_, rfl, _, rfl, x, _, dx, _, rfl, upd_same, cl, no _ (by decide +kernel), (by show 1 < 1000; decide), ?_⟩
    refine ⟨_, rfl, x, _, dx, _, rfl, upd_same, cl, no _ (by decide +kernel), (by show 2 < 1000; decide), ?_⟩
    refine ⟨_, rfl, _, rfl, x, _, dx, _, rfl, upd_same, cl, no _ (by decide +kernel), (by show 3 < 1000; decide), ?_⟩
    refine ⟨_, rfl, x, _, dx, _, rfl, upd_same, cl, no _ (by decide +kernel), (by show 4 < 1000; decide), ?_⟩
    refine ⟨_, rfl, x, _, dx, _, rfl, upd_same, cl, no _ (by decide +kernel), (by show 5 < 1000; decide), ?_⟩
    refine k _ (((((OffP.put.trans .put).trans .put).trans .put).trans .put).trans .put) upd_same
-- INITS
variable {fI : Addr} {fdI : FuncData} (FI : FnG P w K mg base 1 fI fdI ["self", "lines", "forms", "moves"] (spSInit K Z)) (bI : ∀ us : List Value, us.length = ["self", "lines", "forms", "moves"].length → bindArgs fdI ⟨us, []⟩ = pure ((["self", "lines", "forms", "moves"] : List Str).zip us))
  (c_check_name : Cal P w K mg base 2 "check_name" ["value"] spName1) (c_check_form : Cal P w K mg base 1 "check_form" ["value"] (spUnit Z.form)) (M_str : Mt P w K mg base 2 Z.form "__str__" ["self"] (spStr Z.form))
include FI bI c_check_name c_check_form M_str
theorem ok_Let_init {f cda cc : Addr} {fd : FuncData} (F : FunC P K "__init__" "Let.__init__" (defArgs s_Let_init) (defBody s_Let_init) (defScope s_Let_init) f cda cc (Z.j 0) fd) (T : Ta mg) (TS : Ts mg) (C0 : Fc K mg Z.form) (Z0 : Sf K mg Z) (ST : SupTo K (Z.j 0) (Z.j 0) fI) : FnG P w K mg base 8 f fd ["self", "field", "form"] (spLet Z) := by
  refine okGC F sc_Let_init (fun vs H Q E h => ?_) (fun A outer s H vs Q hr h => ?_)
  · obtain ⟨x, dx, n, f, ts, rfl, _⟩ := h
    rfl
  · obtain ⟨x, dx, n, f, ts, rfl, hx, hn, g, k⟩ := h
    have hκ : 0 < 9 := by decide
    have hl := hn.2
    have no : ∀ f ∈ fldA, NoAttr K (Z.j 0) f := Z0.no 0 hκ
    have cl := Z0.cls 0 hκ
    obtain ⟨uW, con⟩ := Z0.con 0 hκ
    have wl := wordK_len 0
    refine ⟨_, (psas_cons (psa_of (ps_expr (pe_c c_check_name hr (by decide) rfl (pa_cons (pv 1) pa_nil))))
  (psas_cons (psa_of (ps_expr (pe_c c_check_form hr (by decide) rfl (pa_cons (pv 2) pa_nil))))
  (psas_cons (psa_superG FI bI hr (by decide) ⟨rfl, F.sup, TS.b_super, rfl, rfl, rfl, rfl⟩ (pa_cons (pe_tupS (pa_cons (pe_joined (PJ.cons (pe_fmt (pe_con (pv 0) rfl)) (PJ.cons pe_str (PJ.cons (pe_fmt (pv 1)) (PJ.cons pe_str (PJ.cons (pe_fmt (pe_callTy (call_strO M_str hr (by decide)) (by rfl) T.b_str (by decide +kernel) (pa_cons (pv 2) pa_nil))) PJ.nil)))))) pa_nil)) (pa_cons (pe_tupS (pa_cons (pv 2) pa_nil)) (pa_cons pe_int pa_nil))))
  (psas_of (pss_cons (ps_fld (pv 0) (pv 1) rfl)
  (pss_one (ps_fld (pv 0) (pv 2) rfl))))))), ?_⟩
    have s0 : Same H H := Same.refl H
    refine ⟨_, rfl, n, rfl, hn.1, hn.2, fun H1 t1 => ?_⟩
    have s1 := s0.trans t1
    refine ⟨_, rfl, f, rfl, (g.same s1).at_.is, ?_⟩
    refine ⟨x, _, dx, [], rfl, s1 _ _ hx, ST, ?_⟩
    refine ⟨_, rfl, x, _, dx, [], _, _, rfl, s1 _ _ hx, cl, con, rfl, .inl ⟨_, rfl, by (refine Nat.le_trans ?_ (show 1000000 ≤ sizeLine by decide); (try simp only [strLen_append, emp_len, l_sp, l_ob, l_cb, l_op, l_cp, l_cs, l_eq, l_st]); omega), _, rfl, by (refine Nat.le_trans ?_ (show 1000000 ≤ sizeLine by decide); (try simp only [strLen_append, emp_len, l_sp, l_ob, l_cb, l_op, l_cp, l_cs, l_eq, l_st]); omega), ?_⟩⟩
    refine ⟨_, rfl, by (refine Nat.le_trans ?_ (show 1000000 ≤ sizeLine by decide); (try simp only [strLen_append, emp_len, l_sp, l_ob, l_cb, l_op, l_cp, l_cs, l_eq, l_st]); omega), ?_⟩
    refine ⟨_, rfl, .inl ⟨_, rfl, by have := hn.2; (refine Nat.le_trans ?_ (show 1000000 ≤ sizeLine by decide); (try simp only [strLen_append, emp_len, l_sp, l_ob, l_cb, l_op, l_cp, l_cs, l_eq, l_st]); omega), _, rfl, by have := hn.2; (refine Nat.le_trans ?_ (show 1000000 ≤ sizeLine by decide); (try simp only [strLen_append, emp_len, l_sp, l_ob, l_cb, l_op, l_cp, l_cs, l_eq, l_st]); omega), ?_⟩⟩
    refine ⟨_, rfl, by (refine Nat.le_trans ?_ (show 1000000 ≤ sizeLine by decide); (try simp only [strLen_append, emp_len, l_sp, l_ob, l_cb, l_op, l_cp, l_cs, l_eq, l_st]); omega), ?_⟩
    have tl2 := text_le g
    refine ⟨_, rfl, f, rfl, (g.same s1).at_.is, f, _, rfl, (g.same s1).at_, g.bd, g.sy, fun H2 t2 => ⟨⟨_, rfl⟩, .inl ⟨_, rfl, by (refine Nat.le_trans ?_ (show 1000000 ≤ sizeLine by decide); (try simp only [strLen_append, emp_len, l_sp, l_ob, l_cb, l_op, l_cp, l_cs, l_eq, l_st]); omega), _, rfl, by (refine Nat.le_trans ?_ (show 1000000 ≤ sizeLine by decide); (try simp only [strLen_append, emp_len, l_sp, l_ob, l_cb, l_op, l_cp, l_cs, l_eq, l_st]); omega), ?_⟩⟩⟩
    have s2 := s1.trans t2
    refine ⟨(by show 1 ≤ sizeLine; decide), fun q H3 nq t3 hq => ?_⟩
    have s3 := s2.trans t3
    refine ⟨_, rfl, (by show 1 ≤ sizeLine; decide), fun r H4 nr t4 hr' => ?_⟩
    have s4 := s3.trans t4
    have hq4 := t4 _ _ hq
    have hx4 := s4 _ _ hx
    have qx : q ≠ x := fun e => by rw [e, hx4] at hq4; cases hq4
    refine ⟨x, dx, q, r, 0, 0, rfl, hx4, hκ, fun G o3 g0 => ?_⟩
    have gq := o3 _ _ qx hq4
    refine ⟨_, rfl, _, rfl, x, _, dx, _, rfl, g0, cl, no _ (by decide +kernel), (by show 6 < 1000; decide), ?_⟩
    refine ⟨_, rfl, _, rfl, x, _, dx, _, rfl, upd_same, cl, no _ (by decide +kernel), (by show 7 < 1000; decide), ?_⟩
    exact k _ (((OffP.of s4).trans o3).trans (OffP.put.trans .put)) ⟨dx, q, r, _, upd_same, (OffP.put.trans .put) _ _ qx gq⟩
theorem ok_Swap_init {f cda cc : Addr} {fd : FuncData} (F : FunC P K "__init__" "Swap.__init__" (defArgs s_Swap_init) (defBody s_Swap_init) (defScope s_Swap_init) f cda cc (Z.j 6) fd) (T : Ta mg) (TS : Ts mg) (C0 : Fc K mg Z.form) (Z0 : Sf K mg Z) (ST : SupTo K (Z.j 6) (Z.j 6) fI) (c__at : Cal P w K mg base 7 "_at" ["array", "index"] (spAt Z.form)) : FnG P w K mg base 8 f fd ["self", "first", "at", "second", "start", "amount"] (spMv Z 6 "first" "at" "second") := by
  refine okGC F sc_Swap_init (fun vs H Q E h => ?_) (fun A outer s H vs Q hr h => ?_)
  · obtain ⟨x, dx, n1, f1, n2, f2, f3, t1, t2, t3, rfl, _⟩ := h
    rfl
  · obtain ⟨x, dx, n1, f1, n2, f2, f3, t1, t2, t3, rfl, hx, hn1, hn2, g1, g2, g3, k⟩ := h
    have hκ : 6 < 9 := by decide
    have no : ∀ f ∈ fldA, NoAttr K (Z.j 6) f := Z0.no 6 hκ
    have cl := Z0.cls 6 hκ
    obtain ⟨uW, con⟩ := Z0.con 6 hκ
    have wl := wordK_len 6
    refine ⟨_, (psas_cons (psa_of (ps_expr (pe_c c_check_name hr (by decide) rfl (pa_cons (pv 1) pa_nil))))
  (psas_cons (psa_of (ps_expr (pe_c c_check_form hr (by decide) rfl (pa_cons (pv 2) pa_nil))))
  (psas_cons (psa_of (ps_expr (pe_c c_check_name hr (by decide) rfl (pa_cons (pv 3) pa_nil))))
  (psas_cons (psa_of (ps_expr (pe_c c_check_form hr (by decide) rfl (pa_cons (pv 4) pa_nil))))
  (psas_cons (psa_of (ps_expr (pe_c c_check_form hr (by decide) rfl (pa_cons (pv 5) pa_nil))))
  (psas_cons (psa_of (ps_set (i := 6) sc_Swap_init.nd rfl (by first | exact .inl rfl | exact .inr rfl) (pe_joined (PJ.cons (pe_fmt (pe_con (pv 0) rfl)) (PJ.cons pe_str (PJ.cons (pe_fmt (pe_c c__at hr (by decide) rfl (pa_cons (pv 1) (pa_cons (pv 2) pa_nil)))) (PJ.cons pe_str (PJ.cons (pe_fmt (pe_c c__at hr (by decide) rfl (pa_cons (pv 3) (pa_cons (pv 4) pa_nil)))) (PJ.cons pe_str (PJ.cons (pe_fmt (pe_callTy (call_strO M_str hr (by decide)) (by rfl) T.b_str (by decide +kernel) (pa_cons (pv 5) pa_nil))) (PJ.cons pe_str PJ.nil)))))))))))
  (psas_cons (psa_superG FI bI hr (by decide) ⟨rfl, F.sup, TS.b_super, rfl, rfl, rfl, rfl⟩ (pa_cons (pe_tupS (pa_cons (pv 6) pa_nil)) (pa_cons (pe_tupS (pa_cons (pv 2) (pa_cons (pv 4) (pa_cons (pv 5) pa_nil)))) (pa_cons pe_int pa_nil))))
  (psas_of (pss_cons (ps_fld (pv 0) (pv 1) rfl)
  (pss_cons (ps_fld (pv 0) (pv 2) rfl)
  (pss_cons (ps_fld (pv 0) (pv 3) rfl)
  (pss_cons (ps_fld (pv 0) (pv 4) rfl)
  (pss_one (ps_fld (pv 0) (pv 5) rfl)))))))))))))), ?_⟩
    have s0 : Same H H := Same.refl H
    refine ⟨_, rfl, n1, rfl, hn1.1, hn1.2, fun H1 t1 => ?_⟩
    have s1 := s0.trans t1
    refine ⟨_, rfl, f1, rfl, (g1.same s1).at_.is, ?_⟩
    refine ⟨_, rfl, n2, rfl, hn2.1, hn2.2, fun H2 t2 => ?_⟩
    have s2 := s1.trans t2
    refine ⟨_, rfl, f2, rfl, (g2.same s2).at_.is, ?_⟩
    refine ⟨_, rfl, f3, rfl, (g3.same s2).at_.is, ?_⟩
    refine ⟨_, rfl, x, _, dx, [], _, _, rfl, s2 _ _ hx, cl, con, rfl, .inl ⟨_, rfl, by (refine Nat.le_trans ?_ (show 1000000 ≤ sizeLine by decide); (try simp only [strLen_append, emp_len, l_sp, l_ob, l_cb, l_op, l_cp, l_cs, l_eq, l_st]); omega), _, rfl, by (refine Nat.le_trans ?_ (show 1000000 ≤ sizeLine by decide); (try simp only [strLen_append, emp_len, l_sp, l_ob, l_cb, l_op, l_cp, l_cs, l_eq, l_st]); omega), ?_⟩⟩
    refine ⟨_, rfl, by (refine Nat.le_trans ?_ (show 1000000 ≤ sizeLine by decide); (try simp only [strLen_append, emp_len, l_sp, l_ob, l_cb, l_op, l_cp, l_cs, l_eq, l_st]); omega), ?_⟩
    have al3 := atL_len hn1.2 g1
    refine ⟨_, rfl, _, rfl, n1, f1, _, rfl, hn1.2, g1.same s2, fun H3 t3 => .inl ⟨_, rfl, by (refine Nat.le_trans ?_ (show 1000000 ≤ sizeLine by decide); (try simp only [strLen_append, emp_len, l_sp, l_ob, l_cb, l_op, l_cp, l_cs, l_eq, l_st]); omega), _, rfl, by (refine Nat.le_trans ?_ (show 1000000 ≤ sizeLine by decide); (try simp only [strLen_append, emp_len, l_sp, l_ob, l_cb, l_op, l_cp, l_cs, l_eq, l_st]); omega), ?_⟩⟩
    have s3 := s2.trans t3
    refine ⟨_, rfl, by (refine Nat.le_trans ?_ (show 1000000 ≤ sizeLine by decide); (try simp only [strLen_append, emp_len, l_sp, l_ob, l_cb, l_op, l_cp, l_cs, l_eq, l_st]); omega), ?_⟩
    have al4 := atL_len hn2.2 g2
    refine ⟨_, rfl, _, rfl, n2, f2, _, rfl, hn2.2, g2.same s3, fun H4 t4 => .inl ⟨_, rfl, by (refine Nat.le_trans ?_ (show 1000000 ≤ sizeLine by decide); (try simp only [strLen_append, emp_len, l_sp, l_ob, l_cb, l_op, l_cp, l_cs, l_eq, l_st]); omega), _, rfl, by (refine Nat.le_trans ?_ (show 1000000 ≤ sizeLine by decide); (try simp only [strLen_append, emp_len, l_sp, l_ob, l_cb, l_op, l_cp, l_cs, l_eq, l_st]); omega), ?_⟩⟩
    have s4 := s3.trans t4
    refine ⟨_, rfl, by (refine Nat.le_trans ?_ (show 1000000 ≤ sizeLine by decide); (try simp only [strLen_append, emp_len, l_sp, l_ob, l_cb, l_op, l_cp, l_cs, l_eq, l_st]); omega), ?_⟩
    have tl5 := text_le g3
    refine ⟨_, rfl, f3, rfl, (g3.same s4).at_.is, f3, _, rfl, (g3.same s4).at_, g3.bd, g3.sy, fun H5 t5 => ⟨⟨_, rfl⟩, .inl ⟨_, rfl, by (refine Nat.le_trans ?_ (show 1000000 ≤ sizeLine by decide); (try simp only [strLen_append, emp_len, l_sp, l_ob, l_cb, l_op, l_cp, l_cs, l_eq, l_st]); omega), _, rfl, by (refine Nat.le_trans ?_ (show 1000000 ≤ sizeLine by decide); (try simp only [strLen_append, emp_len, l_sp, l_ob, l_cb, l_op, l_cp, l_cs, l_eq, l_st]); omega), ?_⟩⟩⟩
    have s5 := s4.trans t5
    refine ⟨_, rfl, by (refine Nat.le_trans ?_ (show 1000000 ≤ sizeLine by decide); (try simp only [strLen_append, emp_len, l_sp, l_ob, l_cb, l_op, l_cp, l_cs, l_eq, l_st]); omega), ?_⟩
    refine ⟨x, _, dx, [], rfl, s5 _ _ hx, ST, ?_⟩
    refine ⟨_, rfl, (by show 1 ≤ sizeLine; decide), fun q H6 nq t6 hq => ?_⟩
    have s6 := s5.trans t6
    refine ⟨_, rfl, _, rfl, _, rfl, (by show 3 ≤ sizeLine; decide), fun r H7 nr t7 hr' => ?_⟩
    have s7 := s6.trans t7
    have hq7 := t7 _ _ hq
    have hx7 := s7 _ _ hx
    have qx : q ≠ x := fun e => by rw [e, hx7] at hq7; cases hq7
    refine ⟨x, dx, q, r, 1, 6, rfl, hx7, hκ, fun G o3 g0 => ?_⟩
    have gq := o3 _ _ qx hq7
    refine ⟨_, rfl, _, rfl, x, _, dx, _, rfl, g0, cl, no _ (by decide +kernel), (by show 6 < 1000; decide), ?_⟩
    refine ⟨_, rfl, _, rfl, x, _, dx, _, rfl, upd_same, cl, no _ (by decide +kernel), (by show 7 < 1000; decide), ?_⟩
    refine ⟨_, rfl, _, rfl, x, _, dx, _, rfl, upd_same, cl, no _ (by decide +kernel), (by show 8 < 1000; decide), ?_⟩
    refine ⟨_, rfl, _, rfl, x, _, dx, _, rfl, upd_same, cl, no _ (by decide +kernel), (by show 9 < 1000; decide), ?_⟩
    refine ⟨_, rfl, _, rfl, x, _, dx, _, rfl, upd_same, cl, no _ (by decide +kernel), (by show 10 < 1000; decide), ?_⟩
    exact k _ (((OffP.of s7).trans o3).trans ((((OffP.put.trans .put).trans .put).trans .put).trans .put)) ⟨dx, q, r, _, upd_same, ((((OffP.put.trans .put).trans .put).trans .put).trans .put) _ _ qx gq⟩
theorem ok_Copy_init {f cda cc : Addr} {fd : FuncData} (F : FunC P K "__init__" "Copy.__init__" (defArgs s_Copy_init) (defBody s_Copy_init) (defScope s_Copy_init) f cda cc (Z.j 1) fd) (T : Ta mg) (TS : Ts mg) (C0 : Fc K mg Z.form) (Z0 : Sf K mg Z) (STK : ∀ κ, 1 ≤ κ → κ ≤ 4 → SupTo K (Z.j 1) (Z.j κ) fI) (c__at : Cal P w K mg base 7 "_at" ["array", "index"] (spAt Z.form)) : FnG P w K mg base 8 f fd ["self", "target", "to", "source", "start", "amount"] (spCopy Z) := by
  refine okGC F sc_Copy_init (fun vs H Q E h => ?_) (fun A outer s H vs Q hr h => ?_)
  · obtain ⟨κ, _, _, x, dx, n1, f1, n2, f2, f3, t1, t2, t3, rfl, _⟩ := h
    rfl
  · obtain ⟨κ, κ1, κ2, x, dx, n1, f1, n2, f2, f3, t1, t2, t3, rfl, hx, hn1, hn2, g1, g2, g3, k⟩ := h
    have hκ : κ < 9 := by omega
    have ST := STK κ κ1 κ2
    have no : ∀ f ∈ fldA, NoAttr K (Z.j κ) f := Z0.no κ hκ
    have cl := Z0.cls κ hκ
    obtain ⟨uW, con⟩ := Z0.con κ hκ
    have wl := wordK_len κ
    refine ⟨_, (psas_cons (psa_of (ps_expr (pe_c c_check_name hr (by decide) rfl (pa_cons (pv 1) pa_nil))))
  (psas_cons (psa_of (ps_expr (pe_c c_check_form hr (by decide) rfl (pa_cons (pv 2) pa_nil))))
  (psas_cons (psa_of (ps_expr (pe_c c_check_name hr (by decide) rfl (pa_cons (pv 3) pa_nil))))
  (psas_cons (psa_of (ps_expr (pe_c c_check_form hr (by decide) rfl (pa_cons (pv 4) pa_nil))))
  (psas_cons (psa_of (ps_expr (pe_c c_check_form hr (by decide) rfl (pa_cons (pv 5) pa_nil))))
  (psas_cons (psa_of (ps_set (i := 6) sc_Copy_init.nd rfl (by first | exact .inl rfl | exact .inr rfl) (pe_joined (PJ.cons (pe_fmt (pe_con (pv 0) rfl)) (PJ.cons pe_str (PJ.cons (pe_fmt (pe_c c__at hr (by decide) rfl (pa_cons (pv 1) (pa_cons (pv 2) pa_nil)))) (PJ.cons pe_str (PJ.cons (pe_fmt (pe_c c__at hr (by decide) rfl (pa_cons (pv 3) (pa_cons (pv 4) pa_nil)))) (PJ.cons pe_str (PJ.cons (pe_fmt (pe_callTy (call_strO M_str hr (by decide)) (by rfl) T.b_str (by decide +kernel) (pa_cons (pv 5) pa_nil))) (PJ.cons pe_str PJ.nil)))))))))))
  (psas_cons (psa_superG FI bI hr (by decide) ⟨rfl, F.sup, TS.b_super, rfl, rfl, rfl, rfl⟩ (pa_cons (pe_tupS (pa_cons (pv 6) pa_nil)) (pa_cons (pe_tupS (pa_cons (pv 2) (pa_cons (pv 4) (pa_cons (pv 5) pa_nil)))) (pa_cons pe_int pa_nil))))
  (psas_of (pss_cons (ps_fld (pv 0) (pv 1) rfl)
  (pss_cons (ps_fld (pv 0) (pv 2) rfl)
  (pss_cons (ps_fld (pv 0) (pv 3) rfl)
  (pss_cons (ps_fld (pv 0) (pv 4) rfl)
  (pss_one (ps_fld (pv 0) (pv 5) rfl)))))))))))))), ?_⟩
    have s0 : Same H H := Same.refl H
    refine ⟨_, rfl, n1, rfl, hn1.1, hn1.2, fun H1 t1 => ?_⟩
    have s1 := s0.trans t1
    refine ⟨_, rfl, f1, rfl, (g1.same s1).at_.is, ?_⟩
    refine ⟨_, rfl, n2, rfl, hn2.1, hn2.2, fun H2 t2 => ?_⟩
    have s2 := s1.trans t2
    refine ⟨_, rfl, f2, rfl, (g2.same s2).at_.is, ?_⟩
    refine ⟨_, rfl, f3, rfl, (g3.same s2).at_.is, ?_⟩
    refine ⟨_, rfl, x, _, dx, [], _, _, rfl, s2 _ _ hx, cl, con, rfl, .inl ⟨_, rfl, by (refine Nat.le_trans ?_ (show 1000000 ≤ sizeLine by decide); (try simp only [strLen_append, emp_len, l_sp, l_ob, l_cb, l_op, l_cp, l_cs, l_eq, l_st]); omega), _, rfl, by (refine Nat.le_trans ?_ (show 1000000 ≤ sizeLine by decide); (try simp only [strLen_append, emp_len, l_sp, l_ob, l_cb, l_op, l_cp, l_cs, l_eq, l_st]); omega), ?_⟩⟩
    refine ⟨_, rfl, by (refine Nat.le_trans ?_ (show 1000000 ≤ sizeLine by decide); (try simp only [strLen_append, emp_len, l_sp, l_ob, l_cb, l_op, l_cp, l_cs, l_eq, l_st]); omega), ?_⟩
    have al3 := atL_len hn1.2 g1
    refine ⟨_, rfl, _, rfl, n1, f1, _, rfl, hn1.2, g1.same s2, fun H3 t3 => .inl ⟨_, rfl, by (refine Nat.le_trans ?_ (show 1000000 ≤ sizeLine by decide); (try simp only [strLen_append, emp_len, l_sp, l_ob, l_cb, l_op, l_cp, l_cs, l_eq, l_st]); omega), _, rfl, by (refine Nat.le_trans ?_ (show 1000000 ≤ sizeLine by decide); (try simp only [strLen_append, emp_len, l_sp, l_ob, l_cb, l_op, l_cp, l_cs, l_eq, l_st]); omega), ?_⟩⟩
    have s3 := s2.trans t3
    refine ⟨_, rfl, by (refine Nat.le_trans ?_ (show 1000000 ≤ sizeLine by decide); (try simp only [strLen_append, emp_len, l_sp, l_ob, l_cb, l_op, l_cp, l_cs, l_eq, l_st]); omega), ?_⟩
    have al4 := atL_len hn2.2 g2
    refine ⟨_, rfl, _, rfl, n2, f2, _, rfl, hn2.2, g2.same s3, fun H4 t4 => .inl ⟨_, rfl, by (refine Nat.le_trans ?_ (show 1000000 ≤ sizeLine by decide); (try simp only [strLen_append, emp_len, l_sp, l_ob, l_cb, l_op, l_cp, l_cs, l_eq, l_st]); omega), _, rfl, by (refine Nat.le_trans ?_ (show 1000000 ≤ sizeLine by decide); (try simp only [strLen_append, emp_len, l_sp, l_ob, l_cb, l_op, l_cp, l_cs, l_eq, l_st]); omega), ?_⟩⟩
    have s4 := s3.trans t4
    refine ⟨_, rfl, by (refine Nat.le_trans ?_ (show 1000000 ≤ sizeLine by decide); (try simp only [strLen_append, emp_len, l_sp, l_ob, l_cb, l_op, l_cp, l_cs, l_eq, l_st]); omega), ?_⟩
    have tl5 := text_le g3
    refine ⟨_, rfl, f3, rfl, (g3.same s4).at_.is, f3, _, rfl, (g3.same s4).at_, g3.bd, g3.sy, fun H5 t5 => ⟨⟨_, rfl⟩, .inl ⟨_, rfl, by (refine Nat.le_trans ?_ (show 1000000 ≤ sizeLine by decide); (try simp only [strLen_append, emp_len, l_sp, l_ob, l_cb, l_op, l_cp, l_cs, l_eq, l_st]); omega), _, rfl, by (refine Nat.le_trans ?_ (show 1000000 ≤ sizeLine by decide); (try simp only [strLen_append, emp_len, l_sp, l_ob, l_cb, l_op, l_cp, l_cs, l_eq, l_st]); omega), ?_⟩⟩⟩
    have s5 := s4.trans t5
    refine ⟨_, rfl, by (refine Nat.le_trans ?_ (show 1000000 ≤ sizeLine by decide); (try simp only [strLen_append, emp_len, l_sp, l_ob, l_cb, l_op, l_cp, l_cs, l_eq, l_st]); omega), ?_⟩
    refine ⟨x, _, dx, [], rfl, s5 _ _ hx, ST, ?_⟩
    refine ⟨_, rfl, (by show 1 ≤ sizeLine; decide), fun q H6 nq t6 hq => ?_⟩
    have s6 := s5.trans t6
    refine ⟨_, rfl, _, rfl, _, rfl, (by show 3 ≤ sizeLine; decide), fun r H7 nr t7 hr' => ?_⟩
    have s7 := s6.trans t7
    have hq7 := t7 _ _ hq
    have hx7 := s7 _ _ hx
    have qx : q ≠ x := fun e => by rw [e, hx7] at hq7; cases hq7
    refine ⟨x, dx, q, r, 1, κ, rfl, hx7, hκ, fun G o3 g0 => ?_⟩
    have gq := o3 _ _ qx hq7
    refine ⟨_, rfl, _, rfl, x, _, dx, _, rfl, g0, cl, no _ (by decide +kernel), (by show 6 < 1000; decide), ?_⟩
    refine ⟨_, rfl, _, rfl, x, _, dx, _, rfl, upd_same, cl, no _ (by decide +kernel), (by show 7 < 1000; decide), ?_⟩
    refine ⟨_, rfl, _, rfl, x, _, dx, _, rfl, upd_same, cl, no _ (by decide +kernel), (by show 8 < 1000; decide), ?_⟩
    refine ⟨_, rfl, _, rfl, x, _, dx, _, rfl, upd_same, cl, no _ (by decide +kernel), (by show 9 < 1000; decide), ?_⟩
    refine ⟨_, rfl, _, rfl, x, _, dx, _, rfl, upd_same, cl, no _ (by decide +kernel), (by show 10 < 1000; decide), ?_⟩
    exact k _ (((OffP.of s7).trans o3).trans ((((OffP.put.trans .put).trans .put).trans .put).trans .put)) ⟨dx, q, r, _, upd_same, ((((OffP.put.trans .put).trans .put).trans .put).trans .put) _ _ qx gq⟩
theorem ok_Reverse_init {f cda cc : Addr} {fd : FuncData} (F : FunC P K "__init__" "Reverse.__init__" (defArgs s_Reverse_init) (defBody s_Reverse_init) (defScope s_Reverse_init) f cda cc (Z.j 5) fd) (T : Ta mg) (TS : Ts mg) (C0 : Fc K mg Z.form) (Z0 : Sf K mg Z) (ST : SupTo K (Z.j 5) (Z.j 5) fI) (c__at : Cal P w K mg base 7 "_at" ["array", "index"] (spAt Z.form)) : FnG P w K mg base 8 f fd ["self", "array", "start", "amount"] (spRev Z) := by
  refine okGC F sc_Reverse_init (fun vs H Q E h => ?_) (fun A outer s H vs Q hr h => ?_)
  · obtain ⟨x, dx, n1, f1, f2, t1, t2, rfl, _⟩ := h
    rfl
  · obtain ⟨x, dx, n1, f1, f2, t1, t2, rfl, hx, hn1, g1, g2, k⟩ := h
    have hκ : 5 < 9 := by decide
    have no : ∀ f ∈ fldA, NoAttr K (Z.j 5) f := Z0.no 5 hκ
    have cl := Z0.cls 5 hκ
    obtain ⟨uW, con⟩ := Z0.con 5 hκ
    have wl := wordK_len 5
    refine ⟨_, (psas_cons (psa_of (ps_expr (pe_c c_check_name hr (by decide) rfl (pa_cons (pv 1) pa_nil))))
  (psas_cons (psa_of (ps_expr (pe_c c_check_form hr (by decide) rfl (pa_cons (pv 2) pa_nil))))
  (psas_cons (psa_of (ps_expr (pe_c c_check_form hr (by decide) rfl (pa_cons (pv 3) pa_nil))))
  (psas_cons (psa_superG FI bI hr (by decide) ⟨rfl, F.sup, TS.b_super, rfl, rfl, rfl, rfl⟩ (pa_cons (pe_tupS (pa_cons (pe_joined (PJ.cons (pe_fmt (pe_con (pv 0) rfl)) (PJ.cons pe_str (PJ.cons (pe_fmt (pe_c c__at hr (by decide) rfl (pa_cons (pv 1) (pa_cons (pv 2) pa_nil)))) (PJ.cons pe_str (PJ.cons (pe_fmt (pe_callTy (call_strO M_str hr (by decide)) (by rfl) T.b_str (by decide +kernel) (pa_cons (pv 3) pa_nil))) (PJ.cons pe_str PJ.nil))))))) pa_nil)) (pa_cons (pe_tupS (pa_cons (pv 2) (pa_cons (pv 3) pa_nil))) (pa_cons pe_int pa_nil))))
  (psas_of (pss_cons (ps_fld (pv 0) (pv 1) rfl)
  (pss_cons (ps_fld (pv 0) (pv 2) rfl)
  (pss_one (ps_fld (pv 0) (pv 3) rfl))))))))), ?_⟩
    have s0 : Same H H := Same.refl H
    refine ⟨_, rfl, n1, rfl, hn1.1, hn1.2, fun H1 t1 => ?_⟩
    have s1 := s0.trans t1
    refine ⟨_, rfl, f1, rfl, (g1.same s1).at_.is, ?_⟩
    refine ⟨_, rfl, f2, rfl, (g2.same s1).at_.is, ?_⟩
    refine ⟨x, _, dx, [], rfl, s1 _ _ hx, ST, ?_⟩
    refine ⟨_, rfl, x, _, dx, [], _, _, rfl, s1 _ _ hx, cl, con, rfl, .inl ⟨_, rfl, by (refine Nat.le_trans ?_ (show 1000000 ≤ sizeLine by decide); (try simp only [strLen_append, emp_len, l_sp, l_ob, l_cb, l_op, l_cp, l_cs, l_eq, l_st]); omega), _, rfl, by (refine Nat.le_trans ?_ (show 1000000 ≤ sizeLine by decide); (try simp only [strLen_append, emp_len, l_sp, l_ob, l_cb, l_op, l_cp, l_cs, l_eq, l_st]); omega), ?_⟩⟩
    refine ⟨_, rfl, by (refine Nat.le_trans ?_ (show 1000000 ≤ sizeLine by decide); (try simp only [strLen_append, emp_len, l_sp, l_ob, l_cb, l_op, l_cp, l_cs, l_eq, l_st]); omega), ?_⟩
    have al2 := atL_len hn1.2 g1
    refine ⟨_, rfl, _, rfl, n1, f1, _, rfl, hn1.2, g1.same s1, fun H2 t2 => .inl ⟨_, rfl, by (refine Nat.le_trans ?_ (show 1000000 ≤ sizeLine by decide); (try simp only [strLen_append, emp_len, l_sp, l_ob, l_cb, l_op, l_cp, l_cs, l_eq, l_st]); omega), _, rfl, by (refine Nat.le_trans ?_ (show 1000000 ≤ sizeLine by decide); (try simp only [strLen_append, emp_len, l_sp, l_ob, l_cb, l_op, l_cp, l_cs, l_eq, l_st]); omega), ?_⟩⟩
    have s2 := s1.trans t2
    refine ⟨_, rfl, by (refine Nat.le_trans ?_ (show 1000000 ≤ sizeLine by decide); (try simp only [strLen_append, emp_len, l_sp, l_ob, l_cb, l_op, l_cp, l_cs, l_eq, l_st]); omega), ?_⟩
    have tl3 := text_le g2
    refine ⟨_, rfl, f2, rfl, (g2.same s2).at_.is, f2, _, rfl, (g2.same s2).at_, g2.bd, g2.sy, fun H3 t3 => ⟨⟨_, rfl⟩, .inl ⟨_, rfl, by (refine Nat.le_trans ?_ (show 1000000 ≤ sizeLine by decide); (try simp only [strLen_append, emp_len, l_sp, l_ob, l_cb, l_op, l_cp, l_cs, l_eq, l_st]); omega), _, rfl, by (refine Nat.le_trans ?_ (show 1000000 ≤ sizeLine by decide); (try simp only [strLen_append, emp_len, l_sp, l_ob, l_cb, l_op, l_cp, l_cs, l_eq, l_st]); omega), ?_⟩⟩⟩
    have s3 := s2.trans t3
    refine ⟨_, rfl, by (refine Nat.le_trans ?_ (show 1000000 ≤ sizeLine by decide); (try simp only [strLen_append, emp_len, l_sp, l_ob, l_cb, l_op, l_cp, l_cs, l_eq, l_st]); omega), ?_⟩
    refine ⟨(by show 1 ≤ sizeLine; decide), fun q H4 nq t4 hq => ?_⟩
    have s4 := s3.trans t4
    refine ⟨_, rfl, _, rfl, (by show 2 ≤ sizeLine; decide), fun r H5 nr t5 hr' => ?_⟩
    have s5 := s4.trans t5
    have hq5 := t5 _ _ hq
    have hx5 := s5 _ _ hx
    have qx : q ≠ x := fun e => by rw [e, hx5] at hq5; cases hq5
    refine ⟨x, dx, q, r, 1, 5, rfl, hx5, hκ, fun G o3 g0 => ?_⟩
    have gq := o3 _ _ qx hq5
    refine ⟨_, rfl, _, rfl, x, _, dx, _, rfl, g0, cl, no _ (by decide +kernel), (by show 6 < 1000; decide), ?_⟩
    refine ⟨_, rfl, _, rfl, x, _, dx, _, rfl, upd_same, cl, no _ (by decide +kernel), (by show 7 < 1000; decide), ?_⟩
    refine ⟨_, rfl, _, rfl, x, _, dx, _, rfl, upd_same, cl, no _ (by decide +kernel), (by show 8 < 1000; decide), ?_⟩
    exact k _ (((OffP.of s5).trans o3).trans ((OffP.put.trans .put).trans .put)) ⟨dx, q, r, _, upd_same, ((OffP.put.trans .put).trans .put) _ _ qx gq⟩
theorem ok_Fill_init {f cda cc : Addr} {fd : FuncData} (F : FunC P K "__init__" "Fill.__init__" (defArgs s_Fill_init) (defBody s_Fill_init) (defScope s_Fill_init) f cda cc (Z.j 7) fd) (T : Ta mg) (TS : Ts mg) (C0 : Fc K mg Z.form) (Z0 : Sf K mg Z) (ST : SupTo K (Z.j 7) (Z.j 7) fI) (c__at : Cal P w K mg base 7 "_at" ["array", "index"] (spAt Z.form)) (c_is_integer : Cal P w K mg base 1 "is_integer" ["value"] (spB K Tr.whole)) : FnG P w K mg base 8 f fd ["self", "array", "start", "amount", "letter"] (spFill Z) := by
  refine okGC F sc_Fill_init (fun vs H Q E h => ?_) (fun A outer s H vs Q hr h => ?_)
  · obtain ⟨x, dx, n1, f1, f2, t1, t2, i, rfl, _⟩ := h
    rfl
  · obtain ⟨x, dx, n1, f1, f2, t1, t2, i, rfl, hx, hn1, g1, g2, hi, k⟩ := h
    have hκ : 7 < 9 := by decide
    have no : ∀ f ∈ fldA, NoAttr K (Z.j 7) f := Z0.no 7 hκ
    have cl := Z0.cls 7 hκ
    obtain ⟨uW, con⟩ := Z0.con 7 hκ
    have wl := wordK_len 7
    refine ⟨_, (psas_cons (psa_of (ps_expr (pe_c c_check_name hr (by decide) rfl (pa_cons (pv 1) pa_nil))))
  (psas_cons (psa_of (ps_expr (pe_c c_check_form hr (by decide) rfl (pa_cons (pv 2) pa_nil))))
  (psas_cons (psa_of (ps_expr (pe_c c_check_form hr (by decide) rfl (pa_cons (pv 3) pa_nil))))
  (psas_cons (psa_of (ps_if (pt_not (pt_val (pe_c c_is_integer hr (by decide) rfl (pa_cons (pv 4) pa_nil))))
    (pss_one ps_dead)
    pss_nil))
  (psas_cons (psa_superG FI bI hr (by decide) ⟨rfl, F.sup, TS.b_super, rfl, rfl, rfl, rfl⟩ (pa_cons (pe_tupS (pa_cons (pe_joined (PJ.cons (pe_fmt (pe_con (pv 0) rfl)) (PJ.cons pe_str (PJ.cons (pe_fmt (pe_c c__at hr (by decide) rfl (pa_cons (pv 1) (pa_cons (pv 2) pa_nil)))) (PJ.cons pe_str (PJ.cons (pe_fmt (pe_callTy (call_strO M_str hr (by decide)) (by rfl) T.b_str (by decide +kernel) (pa_cons (pv 3) pa_nil))) (PJ.cons pe_str (PJ.cons (pe_fmt (pv 4)) PJ.nil)))))))) pa_nil)) (pa_cons (pe_tupS (pa_cons (pv 2) (pa_cons (pv 3) pa_nil))) (pa_cons pe_int pa_nil))))
  (psas_of (pss_cons (ps_fld (pv 0) (pv 1) rfl)
  (pss_cons (ps_fld (pv 0) (pv 2) rfl)
  (pss_cons (ps_fld (pv 0) (pv 3) rfl)
  (pss_one (ps_fld (pv 0) (pv 4) rfl))))))))))), ?_⟩
    have s0 : Same H H := Same.refl H
    refine ⟨_, rfl, n1, rfl, hn1.1, hn1.2, fun H1 t1 => ?_⟩
    have s1 := s0.trans t1
    refine ⟨_, rfl, f1, rfl, (g1.same s1).at_.is, ?_⟩
    refine ⟨_, rfl, f2, rfl, (g2.same s1).at_.is, ?_⟩
    refine ⟨_, rfl, .int i, .int i, rfl, .int _, fun H2 t2 => ⟨true, rfl, iteF ?_⟩⟩
    have s2 := s1.trans t2
    refine ⟨x, _, dx, [], rfl, s2 _ _ hx, ST, ?_⟩
    refine ⟨_, rfl, x, _, dx, [], _, _, rfl, s2 _ _ hx, cl, con, rfl, .inl ⟨_, rfl, by (refine Nat.le_trans ?_ (show 1000000 ≤ sizeLine by decide); (try simp only [strLen_append, emp_len, l_sp, l_ob, l_cb, l_op, l_cp, l_cs, l_eq, l_st]); omega), _, rfl, by (refine Nat.le_trans ?_ (show 1000000 ≤ sizeLine by decide); (try simp only [strLen_append, emp_len, l_sp, l_ob, l_cb, l_op, l_cp, l_cs, l_eq, l_st]); omega), ?_⟩⟩
    refine ⟨_, rfl, by (refine Nat.le_trans ?_ (show 1000000 ≤ sizeLine by decide); (try simp only [strLen_append, emp_len, l_sp, l_ob, l_cb, l_op, l_cp, l_cs, l_eq, l_st]); omega), ?_⟩
    have al3 := atL_len hn1.2 g1
    refine ⟨_, rfl, _, rfl, n1, f1, _, rfl, hn1.2, g1.same s2, fun H3 t3 => .inl ⟨_, rfl, by (refine Nat.le_trans ?_ (show 1000000 ≤ sizeLine by decide); (try simp only [strLen_append, emp_len, l_sp, l_ob, l_cb, l_op, l_cp, l_cs, l_eq, l_st]); omega), _, rfl, by (refine Nat.le_trans ?_ (show 1000000 ≤ sizeLine by decide); (try simp only [strLen_append, emp_len, l_sp, l_ob, l_cb, l_op, l_cp, l_cs, l_eq, l_st]); omega), ?_⟩⟩
    have s3 := s2.trans t3
    refine ⟨_, rfl, by (refine Nat.le_trans ?_ (show 1000000 ≤ sizeLine by decide); (try simp only [strLen_append, emp_len, l_sp, l_ob, l_cb, l_op, l_cp, l_cs, l_eq, l_st]); omega), ?_⟩
    have tl4 := text_le g2
    refine ⟨_, rfl, f2, rfl, (g2.same s3).at_.is, f2, _, rfl, (g2.same s3).at_, g2.bd, g2.sy, fun H4 t4 => ⟨⟨_, rfl⟩, .inl ⟨_, rfl, by (refine Nat.le_trans ?_ (show 1000000 ≤ sizeLine by decide); (try simp only [strLen_append, emp_len, l_sp, l_ob, l_cb, l_op, l_cp, l_cs, l_eq, l_st]); omega), _, rfl, by (refine Nat.le_trans ?_ (show 1000000 ≤ sizeLine by decide); (try simp only [strLen_append, emp_len, l_sp, l_ob, l_cb, l_op, l_cp, l_cs, l_eq, l_st]); omega), ?_⟩⟩⟩
    have s4 := s3.trans t4
    refine ⟨_, rfl, by (refine Nat.le_trans ?_ (show 1000000 ≤ sizeLine by decide); (try simp only [strLen_append, emp_len, l_sp, l_ob, l_cb, l_op, l_cp, l_cs, l_eq, l_st]); omega), ?_⟩
    refine ⟨_, rfl, .inr ⟨_, rfl, ilog hi, _, rfl, by have := ilen hi; (refine Nat.le_trans ?_ (show 1000000 ≤ sizeLine by decide); (try simp only [strLen_append, emp_len, l_sp, l_ob, l_cb, l_op, l_cp, l_cs, l_eq, l_st]); omega), ?_⟩⟩
    refine ⟨(by show 1 ≤ sizeLine; decide), fun q H5 nq t5 hq => ?_⟩
    have s5 := s4.trans t5
    refine ⟨_, rfl, _, rfl, (by show 2 ≤ sizeLine; decide), fun r H6 nr t6 hr' => ?_⟩
    have s6 := s5.trans t6
    have hq6 := t6 _ _ hq
    have hx6 := s6 _ _ hx
    have qx : q ≠ x := fun e => by rw [e, hx6] at hq6; cases hq6
    refine ⟨x, dx, q, r, 1, 7, rfl, hx6, hκ, fun G o3 g0 => ?_⟩
    have gq := o3 _ _ qx hq6
    refine ⟨_, rfl, _, rfl, x, _, dx, _, rfl, g0, cl, no _ (by decide +kernel), (by show 6 < 1000; decide), ?_⟩
    refine ⟨_, rfl, _, rfl, x, _, dx, _, rfl, upd_same, cl, no _ (by decide +kernel), (by show 7 < 1000; decide), ?_⟩
    refine ⟨_, rfl, _, rfl, x, _, dx, _, rfl, upd_same, cl, no _ (by decide +kernel), (by show 8 < 1000; decide), ?_⟩
    refine ⟨_, rfl, _, rfl, x, _, dx, _, rfl, upd_same, cl, no _ (by decide +kernel), (by show 9 < 1000; decide), ?_⟩
    exact k _ (((OffP.of s6).trans o3).trans (((OffP.put.trans .put).trans .put).trans .put)) ⟨dx, q, r, _, upd_same, (((OffP.put.trans .put).trans .put).trans .put) _ _ qx gq⟩
theorem ok_Resize_init {f cda cc : Addr} {fd : FuncData} (F : FunC P K "__init__" "Resize.__init__" (defArgs s_Resize_init) (defBody s_Resize_init) (defScope s_Resize_init) f cda cc (Z.j 8) fd) (T : Ta mg) (TS : Ts mg) (C0 : Fc K mg Z.form) (Z0 : Sf K mg Z) (ST : SupTo K (Z.j 8) (Z.j 8) fI) : FnG P w K mg base 8 f fd ["self", "array", "length"] (spRes Z) := by
  refine okGC F sc_Resize_init (fun vs H Q E h => ?_) (fun A outer s H vs Q hr h => ?_)
  · obtain ⟨x, dx, n, f, ts, rfl, _⟩ := h
    rfl
  · obtain ⟨x, dx, n, f, ts, rfl, hx, hn, g, k⟩ := h
    have hκ : 8 < 9 := by decide
    have hl := hn.2
    have no : ∀ f ∈ fldA, NoAttr K (Z.j 8) f := Z0.no 8 hκ
    have cl := Z0.cls 8 hκ
    obtain ⟨uW, con⟩ := Z0.con 8 hκ
    have wl := wordK_len 8
    refine ⟨_, (psas_cons (psa_of (ps_expr (pe_c c_check_name hr (by decide) rfl (pa_cons (pv 1) pa_nil))))
  (psas_cons (psa_of (ps_expr (pe_c c_check_form hr (by decide) rfl (pa_cons (pv 2) pa_nil))))
  (psas_cons (psa_superG FI bI hr (by decide) ⟨rfl, F.sup, TS.b_super, rfl, rfl, rfl, rfl⟩ (pa_cons (pe_tupS (pa_cons (pe_joined (PJ.cons (pe_fmt (pe_con (pv 0) rfl)) (PJ.cons pe_str (PJ.cons (pe_fmt (pv 1)) (PJ.cons pe_str (PJ.cons (pe_fmt (pe_callTy (call_strO M_str hr (by decide)) (by rfl) T.b_str (by decide +kernel) (pa_cons (pv 2) pa_nil))) (PJ.cons pe_str PJ.nil))))))) pa_nil)) (pa_cons (pe_tupS (pa_cons (pv 2) pa_nil)) (pa_cons pe_int pa_nil))))
  (psas_of (pss_cons (ps_fld (pv 0) (pv 1) rfl)
  (pss_one (ps_fld (pv 0) (pv 2) rfl))))))), ?_⟩
    have s0 : Same H H := Same.refl H
    refine ⟨_, rfl, n, rfl, hn.1, hn.2, fun H1 t1 => ?_⟩
    have s1 := s0.trans t1
    refine ⟨_, rfl, f, rfl, (g.same s1).at_.is, ?_⟩
    refine ⟨x, _, dx, [], rfl, s1 _ _ hx, ST, ?_⟩
    refine ⟨_, rfl, x, _, dx, [], _, _, rfl, s1 _ _ hx, cl, con, rfl, .inl ⟨_, rfl, by (refine Nat.le_trans ?_ (show 1000000 ≤ sizeLine by decide); (try simp only [strLen_append, emp_len, l_sp, l_ob, l_cb, l_op, l_cp, l_cs, l_eq, l_st]); omega), _, rfl, by (refine Nat.le_trans ?_ (show 1000000 ≤ sizeLine by decide); (try simp only [strLen_append, emp_len, l_sp, l_ob, l_cb, l_op, l_cp, l_cs, l_eq, l_st]); omega), ?_⟩⟩
    refine ⟨_, rfl, by (refine Nat.le_trans ?_ (show 1000000 ≤ sizeLine by decide); (try simp only [strLen_append, emp_len, l_sp, l_ob, l_cb, l_op, l_cp, l_cs, l_eq, l_st]); omega), ?_⟩
    refine ⟨_, rfl, .inl ⟨_, rfl, by have := hn.2; (refine Nat.le_trans ?_ (show 1000000 ≤ sizeLine by decide); (try simp only [strLen_append, emp_len, l_sp, l_ob, l_cb, l_op, l_cp, l_cs, l_eq, l_st]); omega), _, rfl, by have := hn.2; (refine Nat.le_trans ?_ (show 1000000 ≤ sizeLine by decide); (try simp only [strLen_append, emp_len, l_sp, l_ob, l_cb, l_op, l_cp, l_cs, l_eq, l_st]); omega), ?_⟩⟩
    refine ⟨_, rfl, by (refine Nat.le_trans ?_ (show 1000000 ≤ sizeLine by decide); (try simp only [strLen_append, emp_len, l_sp, l_ob, l_cb, l_op, l_cp, l_cs, l_eq, l_st]); omega), ?_⟩
    have tl2 := text_le g
    refine ⟨_, rfl, f, rfl, (g.same s1).at_.is, f, _, rfl, (g.same s1).at_, g.bd, g.sy, fun H2 t2 => ⟨⟨_, rfl⟩, .inl ⟨_, rfl, by (refine Nat.le_trans ?_ (show 1000000 ≤ sizeLine by decide); (try simp only [strLen_append, emp_len, l_sp, l_ob, l_cb, l_op, l_cp, l_cs, l_eq, l_st]); omega), _, rfl, by (refine Nat.le_trans ?_ (show 1000000 ≤ sizeLine by decide); (try simp only [strLen_append, emp_len, l_sp, l_ob, l_cb, l_op, l_cp, l_cs, l_eq, l_st]); omega), ?_⟩⟩⟩
    have s2 := s1.trans t2
    refine ⟨_, rfl, by (refine Nat.le_trans ?_ (show 1000000 ≤ sizeLine by decide); (try simp only [strLen_append, emp_len, l_sp, l_ob, l_cb, l_op, l_cp, l_cs, l_eq, l_st]); omega), ?_⟩
    refine ⟨(by show 1 ≤ sizeLine; decide), fun q H3 nq t3 hq => ?_⟩
    have s3 := s2.trans t3
    refine ⟨_, rfl, (by show 1 ≤ sizeLine; decide), fun r H4 nr t4 hr' => ?_⟩
    have s4 := s3.trans t4
    have hq4 := t4 _ _ hq
    have hx4 := s4 _ _ hx
    have qx : q ≠ x := fun e => by rw [e, hx4] at hq4; cases hq4
    refine ⟨x, dx, q, r, 1, 8, rfl, hx4, hκ, fun G o3 g0 => ?_⟩
    have gq := o3 _ _ qx hq4
    refine ⟨_, rfl, _, rfl, x, _, dx, _, rfl, g0, cl, no _ (by decide +kernel), (by show 6 < 1000; decide), ?_⟩
    refine ⟨_, rfl, _, rfl, x, _, dx, _, rfl, upd_same, cl, no _ (by decide +kernel), (by show 7 < 1000; decide), ?_⟩
    exact k _ (((OffP.of s4).trans o3).trans (OffP.put.trans .put)) ⟨dx, q, r, _, upd_same, (OffP.put.trans .put) _ _ qx gq⟩
omit FI bI c_check_name c_check_form M_str
theorem ok_Up_init {f cda cc fC : Addr} {fd fdC : FuncData} (F : FunC P K "__init__" "Up.__init__" (defArgs s_Up_init) (defBody s_Up_init) (defScope s_Up_init) f cda cc (Z.j 2) fd) (TS : Ts mg) (FC : FnG P w K mg base 8 fC fdC ["self", "target", "to", "source", "start", "amount"] (spCopy Z)) (bC : ∀ us : List Value, us.length = ["self", "target", "to", "source", "start", "amount"].length → bindArgs fdC ⟨us, []⟩ = pure ((["self", "target", "to", "source", "start", "amount"] : List Str).zip us))
    (ST : SupTo K (Z.j 2) (Z.j 2) fC) : FnG P w K mg base 9 f fd ["self", "target", "to", "source", "start", "amount"] (spMv Z 2 "target" "to" "source") := by
  refine okGC F sc_Up_init (fun vs H Q E h => ?_) (fun A outer s H vs Q hr h => ?_)
  · obtain ⟨x, dx, n1, f1, n2, f2, f3, t1, t2, t3, rfl, _⟩ := h
    rfl
  · obtain ⟨x, dx, n1, f1, n2, f2, f3, t1, t2, t3, rfl, hx, hn1, hn2, g1, g2, g3, k⟩ := h
    refine ⟨_, (psas_cons (psa_superG FC bC hr (by decide) ⟨rfl, F.sup, TS.b_super, rfl, rfl, rfl, rfl⟩ (pa_cons (pv 1) (pa_cons (pv 2) (pa_cons (pv 3) (pa_cons (pv 4) (pa_cons (pv 5) pa_nil))))))
  (psas_of pss_nil)), ?_⟩
    exact ⟨x, _, dx, [], rfl, hx, ST, _, rfl, _, rfl, _, rfl, _, rfl, _, rfl, 2, by decide, by decide, x, dx, n1, f1, n2, f2, f3, t1, t2, t3, rfl, hx, hn1, hn2, g1, g2, g3, k⟩
theorem ok_Down_init {f cda cc fC : Addr} {fd fdC : FuncData} (F : FunC P K "__init__" "Down.__init__" (defArgs s_Down_init) (defBody s_Down_init) (defScope s_Down_init) f cda cc (Z.j 3) fd) (TS : Ts mg) (FC : FnG P w K mg base 8 fC fdC ["self", "target", "to", "source", "start", "amount"] (spCopy Z)) (bC : ∀ us : List Value, us.length = ["self", "target", "to", "source", "start", "amount"].length → bindArgs fdC ⟨us, []⟩ = pure ((["self", "target", "to", "source", "start", "amount"] : List Str).zip us))
    (ST : SupTo K (Z.j 3) (Z.j 3) fC) : FnG P w K mg base 9 f fd ["self", "target", "to", "source", "start", "amount"] (spMv Z 3 "target" "to" "source") := by
  refine okGC F sc_Down_init (fun vs H Q E h => ?_) (fun A outer s H vs Q hr h => ?_)
  · obtain ⟨x, dx, n1, f1, n2, f2, f3, t1, t2, t3, rfl, _⟩ := h
    rfl
  · obtain ⟨x, dx, n1, f1, n2, f2, f3, t1, t2, t3, rfl, hx, hn1, hn2, g1, g2, g3, k⟩ := h
    refine ⟨_, (psas_cons (psa_superG FC bC hr (by decide) ⟨rfl, F.sup, TS.b_super, rfl, rfl, rfl, rfl⟩ (pa_cons (pv 1) (pa_cons (pv 2) (pa_cons (pv 3) (pa_cons (pv 4) (pa_cons (pv 5) pa_nil))))))
  (psas_of pss_nil)), ?_⟩
    exact ⟨x, _, dx, [], rfl, hx, ST, _, rfl, _, rfl, _, rfl, _, rfl, _, rfl, 3, by decide, by decide, x, dx, n1, f1, n2, f2, f3, t1, t2, t3, rfl, hx, hn1, hn2, g1, g2, g3, k⟩
theorem ok_Apart_init {f cda cc fC : Addr} {fd fdC : FuncData} (F : FunC P K "__init__" "Apart.__init__" (defArgs s_Apart_init) (defBody s_Apart_init) (defScope s_Apart_init) f cda cc (Z.j 4) fd) (TS : Ts mg) (FC : FnG P w K mg base 8 fC fdC ["self", "target", "to", "source", "start", "amount"] (spCopy Z)) (bC : ∀ us : List Value, us.length = ["self", "target", "to", "source", "start", "amount"].length → bindArgs fdC ⟨us, []⟩ = pure ((["self", "target", "to", "source", "start", "amount"] : List Str).zip us))
    (ST : SupTo K (Z.j 4) (Z.j 4) fC) : FnG P w K mg base 9 f fd ["self", "target", "to", "source", "start", "amount"] (spMv Z 4 "target" "to" "source") := by
  refine okGC F sc_Apart_init (fun vs H Q E h => ?_) (fun A outer s H vs Q hr h => ?_)
  · obtain ⟨x, dx, n1, f1, n2, f2, f3, t1, t2, t3, rfl, _⟩ := h
    rfl
  · obtain ⟨x, dx, n1, f1, n2, f2, f3, t1, t2, t3, rfl, hx, hn1, hn2, g1, g2, g3, k⟩ := h
    refine ⟨_, (psas_cons (psa_superG FC bC hr (by decide) ⟨rfl, F.sup, TS.b_super, rfl, rfl, rfl, rfl⟩ (pa_cons (pv 1) (pa_cons (pv 2) (pa_cons (pv 3) (pa_cons (pv 4) (pa_cons (pv 5) pa_nil))))))
  (psas_of pss_nil)), ?_⟩
    exact ⟨x, _, dx, [], rfl, hx, ST, _, rfl, _, rfl, _, rfl, _, rfl, _, rfl, 4, by decide, by decide, x, dx, n1, f1, n2, f2, f3, t1, t2, t3, rfl, hx, hn1, hn2, g1, g2, g3, k⟩
end
end Lw

/-! ## StA -/
set_option maxHeartbeats 4000000
/-! rules for the laws of statements -/
namespace Lw
open PySem PySem.W PySem.Spec PySem.Calls PyProof.Rows Builtin
section
variable {prog : Program} {w : World} {M : Model} {A : Around} {E : Value → Shared → Prop} {s : Shared} {K : Frag} {x y C D f L : Addr} {ox oy : Obj} {od oe : Option Obj} {h₀ : Heap} {m : Str → Option Value} {b tb : Value}
/-- the right operand is of a class below that of the left: it is asked first -/
theorem cmpFirst_Lw {op : CmpOp} {Q : Value → Shared → Prop} (hu : A.units < cLine) (F : Fr h₀ L s.heap m) (X₀ : K.In h₀) (I : InstAt s.heap x ox C od) (J : InstAt s.heap y oy D oe) (hsub : subIn K (.ref D) (.ref C) = some true) (hne : C ≠ D)
    (one : wpAny (model prog w) A (tryCompare (.ref y) (cmpInfo op).2.2 (.ref x)) (fun r s' => ∃ v, r = some v ∧ Q v s') E s) : wpAny (model prog w) A (richCompare op (.ref x) (.ref y)) Q E s := by
  have X := X₀.keeps F.keep
  unfold richCompare
  simp only [oneThing_ref]
  refine wpAny_holding (wpAny_bind (wpAny_cRoomFor hu ?_))
  refine wpAny_bind (I.type.here (wpAny_bind (J.type.here ?_)))
  have ne : (Value.ref C != Value.ref D) = true := by
    rw [bne_iff_ne]
    intro e
    cases e
    exact hne rfl
  rw [if_pos ne]
  refine wpAny_bind ((looks_subIn X hsub).here ?_)
  simp only [if_true]
  refine wpAny_bind (wpAny_mono one (fun r s' z => ?_) fun _ _ e => e)
  obtain ⟨v, rfl, hq⟩ := z
  exact wpAny_bind (wpAny_rule (wpAny_pure hq))
theorem eqTry_Lw {Q : Value → Shared → Prop} (X : K.In s.heap) (J : InstAt s.heap y oy D oe) (hs : findIn K (.ref D) "__eq__" = some (some (.ref f))) (hf : isFn K (.ref f) = true) (h : wpAny (model prog w) A (call (.ref f) [.ref y, b]) (PySem.W.CmpBack Q) E s) :
    wpAny (model prog w) A (tryCompare (.ref y) (cmpInfo .Eq).2.2 b) (fun r s' => ∃ v, r = some v ∧ Q v s') E s := by
  unfold tryCompare
  refine wpAny_bind (ifBound_K X J hs hf (wpAny_mono h (fun v s' hv => ?_) fun _ _ e => e))
  cases v <;> first | exact hv.elim | exact wpAny_pure ⟨_, rfl, hv⟩
theorem neTry_Lw {Q : Value → Shared → Prop} (hu1 : A.in1.units < cLine) (X : K.In s.heap) (J : InstAt s.heap y oy D oe) (hs : findIn K (.ref D) "__ne__" = some (some (.builtin "object.__ne__"))) (hm : mroIn K D (.type "object") = some true) (he : findIn K (.ref D) "__eq__" = some (some (.ref f)))
    (hf : isFn K (.ref f) = true) (h : wpAny (model prog w) A.in1 (call (.ref f) [.ref y, b]) (NeBack Q) E s) : wpAny (model prog w) A (tryCompare (.ref y) (cmpInfo .NotEq).2.2 b) (fun r s' => ∃ v, r = some v ∧ Q v s') E s := by
  unfold tryCompare
  refine wpAny_bind (ifBoundB_Lw X J hs PySem.F.cmp_object.ne.bind (objNe_Lw hu1 X J hm he hf (wpAny_mono h (fun v s' hv => ?_) fun _ _ e => e)))
  obtain ⟨c, rfl, q⟩ := hv
  exact ⟨c, rfl, wpAny_pure ⟨_, rfl, q⟩⟩
end
end Lw
namespace Lw
open PySem PySem.Spec PyProof.Rows L2
theorem ix_listB {X : Cx} {K : PySem.W.Frag} (hK : X.K = K) : IxR X (rIxL K) := by
  subst hK
  exact ix_list
/-! ### == and != of objects of a family of classes, by one __eq__ -/
def othS : List String := ["str", "tuple", "list", "NoneType", "int", "bool"]
structure EqF (P : Program) (w : World) (K : PySem.W.Frag) (mg : Str → Option Value) (base : Heap) (k : Nat) (Kn : Addr → Prop) (ps : List Str) (sp : Sp) : Prop where
  ex : ∃ (f : Addr) (fd : FuncData), FnG P w K mg base k f fd ps sp ∧ (∀ C, Kn C → Meth K C "__eq__" f) ∧ (∀ us : List Value, us.length = ps.length → bindArgs fd ⟨us, []⟩ = pure (ps.zip us))
  ne : ∀ C, Kn C → PySem.W.findIn K (.ref C) "__ne__" = some (some (.builtin "object.__ne__"))
  obj : ∀ C, Kn C → PySem.W.mroIn K C (.type "object") = some true
  sub : ∀ C D, Kn C → Kn D → ∃ b, PySem.W.subIn K (.ref D) (.ref C) = some b
  oth : ∀ C tn, Kn C → tn ∈ othS → PySem.W.subIn K (.type tn) (.ref C) = some false
def InsK (Kn : Addr → Prop) (H : Hp) (a : Addr) : Prop := ∃ C dx fs, H a = some (.ins C dx fs) ∧ Kn C
/-- the other operand: of the family, or of another kind -/
def Oth2 (K : PySem.W.Frag) (Kn : Addr → Prop) (sp : Sp) (a : Addr) (y : V) (H : Hp) (R : VK) : Prop := sp [.ref a, y] H R E0 ∧ ((∃ b, y = .ref b ∧ InsK Kn H b ∧ sp [y, .ref a] H R E0) ∨ ∃ tn, tn ∈ othS ∧ TyX K H y (.type tn))
def rEqF (K : PySem.W.Frag) (Kn : Addr → Prop) (sp : Sp) : R2 := fun x y H Q => ∃ a, x = .ref a ∧ InsK Kn H a ∧ Oth2 K Kn sp a y H Q
def rNeF (K : PySem.W.Frag) (Kn : Addr → Prop) (sp : Sp) : R2 := fun x y H Q => ∃ a, x = .ref a ∧ InsK Kn H a ∧ Oth2 K Kn sp a y H (fun v H' => ∃ b, v = .bl b ∧ Q (.bl (!b)) H')
section
variable {X : Cx} {k j : Nat} {Kn : Addr → Prop} {ps : List Str} {sp : Sp} {K : PySem.W.Frag}
theorem eqF_run {f : Addr} {fd : FuncData} {pins : List (Addr × Obj)} {σ : L2.St} {H : Hp} {s : Shared} {Q : VK} {us : List Value} {vs : List V} (F : FnG X.prog X.w X.K X.mg X.base k f fd ps sp) (hr : RoomG k X.A.in1) (b : ∀ us : List Value, us.length = ps.length → bindArgs fd ⟨us, []⟩ = pure (ps.zip us)) (I : Inv X pins σ H s) (r : Vals vs us)
    (h : sp vs H (fun v H' => ∃ b, v = .bl b ∧ Q (.bl (!b)) H') E0) : wpAny (model X.prog X.w) X.A.in1 (call (.ref f) us) (NeBack (EP X pins σ Q)) X.xe s := by
  refine wpAny_call (codeAny_mono (run_at F hr rfl (b _ (by rw [← r.length]; exact F.len _ _ _ _ h)) I r h) fun r s' z => ?_)
  cases r with
  | error e => exact z
  | ok fl =>
    cases fl with
    | ret v =>
      obtain ⟨y, H', I', ry, c, rfl, q⟩ := z
      cases ry
      exact ⟨c, rfl, V.bl (!c), H', I', rfl, q⟩
    | next => exact z
    | brk => exact z
    | cont => exact z
theorem op_eqF (hK : X.K = K) (M : EqF X.prog X.w X.K X.mg X.base k Kn ps sp) (hr : RoomG j X.A) (hk : k ≤ j) : OpR X (compareOp .Eq) (rEqF K Kn sp) := by
  subst hK
  obtain ⟨f, fd, F, hm, b⟩ := M.ex
  intro pins s σ H x y v u Q I rx ry hq
  obtain ⟨a, rfl, ⟨C, dx, fs, ha, kn⟩, h, hy⟩ := hq
  cases rx
  obtain ⟨ox, od, J⟩ := is_inst I ⟨dx, fs, ha⟩
  obtain ⟨m, hF⟩ := I.fr
  have hu : X.A.units < cLine := Nat.lt_of_le_of_lt (Nat.le_add_right _ _) hr.units
  have m1 := hm C kn
  have c1 := call_bin (vs := [V.ref a, y]) (us := [Value.ref a, u]) F (hr.mono hk) (b _ (F.len _ _ _ _ h)) I (.cons rfl (.cons ry .nil)) h
  rcases hy with ⟨d, rfl, ⟨D, dy, gs, hd, kd⟩, h2⟩ | ⟨tn, mt, ty⟩
  · cases ry
    obtain ⟨oy, oe, J2⟩ := is_inst I ⟨dy, gs, hd⟩
    have m2 := hm D kd
    by_cases e : C = D
    · subst e
      exact PySem.W.cmp_ofEq (PySem.W.cmp_K hu hF I.ok.mod.kin J J2.type (by unfold PySem.W.notFirst; simp) m1.at_ m1.fn c1)
    · obtain ⟨bb, hb⟩ := M.sub C D kn kd
      cases bb with
      | false => exact PySem.W.cmp_ofEq (PySem.W.cmp_K hu hF I.ok.mod.kin J J2.type (by unfold PySem.W.notFirst; rw [hb]; simp) m1.at_ m1.fn c1)
      | true => exact PySem.W.cmp_ofEq (cmpFirst_Lw hu hF I.ok.mod.kin J J2 hb e (eqTry_Lw I.kIn J2 m2.at_ m2.fn (call_bin (vs := [V.ref d, V.ref a]) (us := [Value.ref d, Value.ref a]) F (hr.mono hk) (b _ (F.len _ _ _ _ h2)) I (.cons rfl (.cons rfl .nil)) h2)))
  · obtain ⟨Pk, Z, p, hx⟩ := kit_of I ry ty
    have lk : PySem.W.Looks (model X.prog X.w) s.heap (typeOf u) (.type tn) := Z.ty _ _ I.kIn p
    exact PySem.W.cmp_ofEq (PySem.W.cmp_K hu hF I.ok.mod.kin J lk (by unfold PySem.W.notFirst; rw [M.oth C tn kn mt]; simp) m1.at_ m1.fn c1)
theorem op_neF (hK : X.K = K) (M : EqF X.prog X.w X.K X.mg X.base k Kn ps sp) (hr : RoomG j X.A) (hk : k + 1 ≤ j) : OpR X (compareOp .NotEq) (rNeF K Kn sp) := by
  subst hK
  obtain ⟨f, fd, F, hm, b⟩ := M.ex
  intro pins s σ H x y v u Q I rx ry hq
  obtain ⟨a, rfl, ⟨C, dx, fs, ha, kn⟩, h, hy⟩ := hq
  cases rx
  obtain ⟨ox, od, J⟩ := is_inst I ⟨dx, fs, ha⟩
  obtain ⟨m, hF⟩ := I.fr
  have hu : X.A.units < cLine := Nat.lt_of_le_of_lt (Nat.le_add_right _ _) hr.units
  have hr1 : RoomG k X.A.in1 := (hr.mono hk).in1
  have hu1 : X.A.in1.units < cLine := Nat.lt_of_le_of_lt (Nat.le_add_right _ _) hr1.units
  have m1 := hm C kn
  have c1 := eqF_run (vs := [V.ref a, y]) (us := [Value.ref a, u]) F hr1 b I (.cons rfl (.cons ry .nil)) h
  rcases hy with ⟨d, rfl, ⟨D, dy, gs, hd, kd⟩, h2⟩ | ⟨tn, mt, ty⟩
  · cases ry
    obtain ⟨oy, oe, J2⟩ := is_inst I ⟨dy, gs, hd⟩
    have m2 := hm D kd
    by_cases e : C = D
    · subst e
      exact PySem.W.cmp_ofNotEq (ne_Lw hu hu1 hF I.ok.mod.kin J J2.type (by unfold PySem.W.notFirst; simp) (M.ne C kn) (M.obj C kn) m1.at_ m1.fn c1)
    · obtain ⟨bb, hb⟩ := M.sub C D kn kd
      cases bb with
      | false => exact PySem.W.cmp_ofNotEq (ne_Lw hu hu1 hF I.ok.mod.kin J J2.type (by unfold PySem.W.notFirst; rw [hb]; simp) (M.ne C kn) (M.obj C kn) m1.at_ m1.fn c1)
      | true => exact PySem.W.cmp_ofNotEq (cmpFirst_Lw hu hF I.ok.mod.kin J J2 hb e (neTry_Lw hu1 I.kIn J2 (M.ne D kd) (M.obj D kd) m2.at_ m2.fn (eqF_run (vs := [V.ref d, V.ref a]) (us := [Value.ref d, Value.ref a]) F hr1 b I (.cons rfl (.cons rfl .nil)) h2)))
  · obtain ⟨Pk, Z, p, hx⟩ := kit_of I ry ty
    have lk : PySem.W.Looks (model X.prog X.w) s.heap (typeOf u) (.type tn) := Z.ty _ _ I.kIn p
    exact PySem.W.cmp_ofNotEq (ne_Lw hu hu1 hF I.ok.mod.kin J lk (by unfold PySem.W.notFirst; rw [M.oth C tn kn mt]; simp) (M.ne C kn) (M.obj C kn) m1.at_ m1.fn c1)
/-! ### isinstance(a, D), a of a family -/
def rIsF (Kn : Addr → Prop) (D : Addr) (g : Addr → Bool) : List V → Hp → VK → Prop := fun xs H Q => ∃ a C dx fs, xs = [.ref a, .ref D] ∧ H a = some (.ins C dx fs) ∧ Kn C ∧ Q (.bl (g C)) H
theorem call_isF {D : Addr} {g : Addr → Bool} (c : ∀ C, Kn C → C8.InsC X.K C ∧ PySem.W.kitOne X.K (.ref C) (.ref D) = some (g C)) : CallR X (.builtin "isinstance") (rIsF Kn D g) := by
  intro pins s σ H xs us Q I r h
  obtain ⟨a, C, dx, fs, rfl, ha, kn, q⟩ := h
  obtain ⟨u, w', rfl, ru, rw'⟩ := vals2 r
  cases rw'
  obtain ⟨i, e⟩ := c C kn
  exact isinst_ok I ru (TyOf.ins ha i.cl i.ha i.hn i.htk i.hm) e fun tk => ⟨.bl (g C), H, I.tok _, rfl, q⟩
/-! ### str(a), repr(a) of a family, by one def -/
structure MtF (P : Program) (w : World) (K : PySem.W.Frag) (mg : Str → Option Value) (base : Heap) (k : Nat) (Kn : Addr → Prop) (m : Str) (ps : List Str) (sp : Sp) : Prop where
  mt : ∀ C, Kn C → Mt P w K mg base k C m ps sp
def rStrF (Kn : Addr → Prop) (sp : Sp) : List V → Hp → VK → Prop := fun xs H Q => ∃ a, xs = [.ref a] ∧ InsK Kn H a ∧ sp [.ref a] H (fun v H' => (∃ z, v = .str z) ∧ Q v H') E0
theorem call_strF (M : MtF X.prog X.w X.K X.mg X.base k Kn "__str__" ps sp) (hr : RoomG j X.A) (hk : k + 4 ≤ j) : CallR X (.type "str") (rStrF Kn sp) := by
  intro pins s σ H xs us Q I r hq
  obtain ⟨a, rfl, ⟨C, dx, fs, ha, kn⟩, h⟩ := hq
  exact call_strO (M.mt C kn) hr hk pins s σ H _ us Q I r ⟨a, rfl, ⟨dx, fs, ha⟩, h⟩
theorem call_reprF (M : MtF X.prog X.w X.K X.mg X.base k Kn "__repr__" ps sp) (hr : RoomG j X.A) (hk : k + 1 ≤ j) : CallR X (.builtin "repr") (rStrF Kn sp) := by
  intro pins s σ H xs us Q I r hq
  obtain ⟨a, rfl, ⟨C, dx, fs, ha, kn⟩, h⟩ := hq
  exact call_reprO (M.mt C kn) hr hk pins s σ H _ us Q I r ⟨a, rfl, ⟨dx, fs, ha⟩, h⟩
end
/-! ### C(k = e, ..), the names in any order -/
def pick {α : Type} (ix : List Nat) (l : List α) : List α := ix.filterMap fun i => l[i]?
theorem vals_at : ∀ {vs : List V} {us : List Value}, Vals vs us → ∀ i : Nat, (∃ v u, vs[i]? = some v ∧ us[i]? = some u ∧ RelV v u) ∨ (vs[i]? = none ∧ us[i]? = none)
  | _, _, .nil, i => .inr ⟨rfl, rfl⟩
  | _, _, .cons r _, 0 => .inl ⟨_, _, rfl, rfl, r⟩
  | _, _, .cons _ t, i + 1 => vals_at t i
theorem vals_pick {vs : List V} {us : List Value} (r : Vals vs us) : ∀ ix : List Nat, Vals (pick ix vs) (pick ix us)
  | [] => .nil
  | i :: ix => by
    have t := vals_pick r ix
    rcases vals_at r i with ⟨v, u, e1, e2, rv⟩ | ⟨e1, e2⟩
    · have x1 : pick (i :: ix) vs = v :: pick ix vs := by
        unfold pick
        rw [List.filterMap_cons, e1]
      have x2 : pick (i :: ix) us = u :: pick ix us := by
        unfold pick
        rw [List.filterMap_cons, e2]
      rw [x1, x2]
      exact .cons rv t
    · have x1 : pick (i :: ix) vs = pick ix vs := by
        unfold pick
        rw [List.filterMap_cons, e1]
      have x2 : pick (i :: ix) us = pick ix us := by
        unfold pick
        rw [List.filterMap_cons, e2]
      rw [x1, x2]
      exact t
structure MkGp (P : Program) (w : World) (K : PySem.W.Frag) (mg : Str → Option Value) (base : Heap) (k : Nat) (x : Str) (C : Addr) (ps ks : List Str) (ix : List Nat) (sp : Sp) : Prop where
  ex : ∃ (f : Addr) (fd : FuncData), Mk K C f ∧ FnG P w K mg base k f fd ps sp ∧ mg x = some (.ref C) ∧ ∀ (u : Value) (us : List Value), us.length = ks.length → bindArgs fd ⟨[u], ks.zip us⟩ = pure (ps.zip (u :: pick ix us))
def tMakeGp (C : Addr) (ix : List Nat) (n : Nat) (sp : Sp) (tk : TA) : TE := fun σ H Q => tk σ H fun vs H1 => vs.length = n ∧ ∀ x dx, H1 x = Option.none → H1 dx = Option.none → dx ≠ x → sp (V.ref x :: pick ix vs) (upd (upd H1 dx (.own x)) x (.ins C dx [])) (fun v H2 => v = .non ∧ Q (.ref x) H2) E0
section
variable {X : Cx} {k j : Nat} {C : Addr} {sp : Sp} {x : Str} {ps ks : List Str} {ix : List Nat} {kws : List Keyword} {tk : TA} {p pos : Pos}
theorem pe_makeGp (M : MkGp X.prog X.w X.K X.mg X.base k x C ps ks ix sp) (hr : RoomG j X.A) (hk : k + 1 ≤ j) (hg : Gl X x) (hkw : PK X kws tk)
    (hall : (backToKw pos (keywordEach kws X.env)).all (·.1.isSome) = true := by rfl) (hks : (backToKw pos (keywordEach kws X.env)).filterMap (·.1) = ks := by rfl) (hdb : (x == ("__debug__" : Str)) = false := by decide)
    (hpl : ((backTo pos (starEach [] X.env)).any (·.1) || (backToKw pos (keywordEach kws X.env)).any (·.1.isNone)) = false := by rfl) : PE X (.Call (.Name x p) [] kws pos) (tMakeGp C ix ks.length sp tk) := by
  obtain ⟨f, fd, M, F, hm, hb⟩ := M.ex
  refine ⟨fun pins s σ H Q I h => ?_⟩
  refine wpAny_Call_Name_kw (ld_glob I hg hm ?_ hdb)
  refine PySem.W.callWith_KW0 (first := []) (h₀ := X.base) I.ok.mod.kin M.kp hall (thn (hkw.run pos pins s σ H _ I h) fun us s1 ⟨vs, H1, I1, r, l, q⟩ => ⟨I1.kIn, ?_⟩) hpl
  rw [hks]
  have hq := q (s1.heap.objs.size + 1) s1.heap.objs.size (I1.hok.fresh (Nat.le_succ _)) (I1.hok.fresh (Nat.le_refl _)) (Nat.ne_of_lt (Nat.lt_succ_self _))
  have I2 := Inv.made (C := C) I1
  have lu : us.length = ks.length := by rw [← r.length]; exact l
  refine wpAny_call (make_map (f := f) I1.kIn M.makes M.init (beq_iff_eq.mp M.fn) (codeAny_mono (F.run _ X.stack _ _ _ (Value.ref (s1.heap.objs.size + 1) :: pick ix us) _ _ ((hr.mono hk).make C [] (ks.zip us)) (I2.env0.make C [] (ks.zip us)) (.of_eq (hb _ us lu)) (show Vals (V.ref (s1.heap.objs.size + 1) :: pick ix vs) (Value.ref (s1.heap.objs.size + 1) :: pick ix us) from .cons rfl (vals_pick r ix)) hq) fun r s' hq' => ?_))
  cases r with
  | error e => exact False.elim hq'
  | ok fl =>
    cases fl with
    | ret u =>
      obtain ⟨v, H', I3, rv, ev, q3⟩ := I2.after hq'
      subst ev
      exact ⟨rv, ⟨V.ref (s1.heap.objs.size + 1), H', I3, rfl, q3⟩⟩
    | next => exact False.elim hq'
    | brk => exact False.elim hq'
    | cont => exact False.elim hq'
end
end Lw

/-! ## StC -/
set_option maxHeartbeats 1000000
namespace Lw
open PySem PySem.Spec PyProof.Rows L2
open Fm (cf Asc Nm)
abbrev s__law_name : Stmt := topS 73
abbrev n__law_name : List Str := ["_law_purse_here", "_law_letters", "_law_signs", "_law_found", "_law_turn"]
theorem sc__law_name : FnScope n__law_name ["_law_purse_here"] (defScope s__law_name) := ⟨rfl, rfl, rfl, by decide +kernel, rfl, by decide +kernel, by decide +kernel⟩
abbrev s__law_other_name : Stmt := topS 74
abbrev n__law_other_name : List Str := ["_law_purse_here", "_law_taken", "_law_found", "_law_others", "_law_k", "_law_each"]
theorem sc__law_other_name : FnScope n__law_other_name ["_law_purse_here", "_law_taken"] (defScope s__law_other_name) := ⟨rfl, rfl, rfl, by decide +kernel, rfl, by decide +kernel, by decide +kernel⟩
abbrev s__law_names : Stmt := topS 75
abbrev n__law_names : List Str := ["_law_purse_here", "_law_many", "_law_way", "_law_turn", "_law_known", "_law_words", "_law_k", "_law_found"]
theorem sc__law_names : FnScope n__law_names ["_law_purse_here", "_law_many"] (defScope s__law_names) := ⟨rfl, rfl, rfl, by decide +kernel, rfl, by decide +kernel, by decide +kernel⟩
/-- a text of at most n signs, all of them storable -/
structure OkS (n : Nat) (z : Str) : Prop where
  len : z.length ≤ n
  ok : ∀ c ∈ z.cps.toList, c < 0x110000
theorem OkS.strOk {n : Nat} {z : Str} (h : OkS n z) : PyData.strOk z = true := by
  show z.cps.all (· < 0x110000) = true
  rw [← Array.all_toList]
  exact List.all_eq_true.mpr fun c hc => decide_eq_true (h.ok c hc)
theorem OkS.mono {n m : Nat} {z : Str} (h : OkS n z) (k : n ≤ m) : OkS m z := ⟨Nat.le_trans h.len k, h.ok⟩
theorem OkS.add {n m : Nat} {a b : Str} (h : OkS n a) (k : OkS m b) : OkS (n + m) (a ++ b) := by
  refine ⟨?_, fun c hc => ?_⟩
  · show (a.cps ++ b.cps).size ≤ n + m
    rw [Array.size_append]
    exact Nat.add_le_add h.len k.len
  · have hc : c ∈ (a.cps ++ b.cps).toList := hc
    rw [Array.toList_append] at hc
    exact (List.mem_append.mp hc).elim (h.ok c) (k.ok c)
theorem OkS.cut {n : Nat} {z : Str} (h : OkS n z) (lo hi : Option Int) : OkS n (cutS z lo hi) := by
  refine ⟨Nat.le_trans (cutS_length z lo hi) h.len, fun c hc => h.ok c ?_⟩
  have hc : c ∈ ((z.cps.toList.drop (HT.sIx z.length 0 lo)).take (HT.sIx z.length z.length hi - HT.sIx z.length 0 lo)).toArray.toList := hc
  rw [List.toList_toArray] at hc
  exact List.mem_of_mem_drop (List.mem_of_mem_take hc)
theorem OkS.one {c : Nat} (h : c < 0x110000) : OkS 1 ⟨#[c]⟩ := ⟨Nat.le_refl 1, fun d hd => by
  have hd : d ∈ [c] := hd
  rw [List.mem_singleton.mp hd]
  exact h⟩
theorem OkS.join : ∀ {zs : List Str}, (∀ z ∈ zs, OkS 1 z) → OkS zs.length (Txt.join "" zs)
  | [], _ => ⟨Nat.le_refl 0, fun c hc => by
    have hc : c ∈ ([] : List Nat) := hc
    cases hc⟩
  | [x], h => by
    rw [show Txt.join "" [x] = x by rw [show Txt.join "" [x] = Str.join "" [x] from StrLaws.glued_eq_join _ _]; rfl]
    exact h x List.mem_cons_self
  | x :: y :: r, h => by
    have e : Txt.join "" (x :: y :: r) = (x ++ ("" : Str)) ++ Txt.join "" (y :: r) := by
      rw [show Txt.join "" (x :: y :: r) = Str.join "" (x :: y :: r) from StrLaws.glued_eq_join _ _, show Txt.join "" (y :: r) = Str.join "" (y :: r) from StrLaws.glued_eq_join _ _]
      rfl
    rw [e]
    have h1 : OkS 0 ("" : Str) := ⟨Nat.le_refl 0, fun c hc => by
      have hc : c ∈ ([] : List Nat) := hc
      cases hc⟩
    have h2 := ((h x List.mem_cons_self).add h1).add (OkS.join (zs := y :: r) fun z hz => h z (List.mem_cons_of_mem _ hz))
    exact h2.mono (by simp; omega)
theorem okS_small {c : Nat} (h : c ∈ signsS.cps.toList) : c < 0x110000 := by
  have f : ∀ c ∈ signsS.cps.toList, decide (c < 0x110000) = true := by decide +kernel
  exact of_decide_eq_true (f c h)
theorem OkS.lit {n : Nat} {z : Str} (h : (decide (z.length ≤ n) && z.cps.toList.all fun c => decide (c < 0x110000)) = true) : OkS n z := by
  obtain ⟨h1, h2⟩ := Bool.and_eq_true_iff.mp h
  exact ⟨of_decide_eq_true h1, fun c hc => of_decide_eq_true (List.all_eq_true.mp h2 c hc)⟩
theorem small_of {l : List Nat} {c : Nat} (hc : c ∈ l) (h : (l.all fun c => decide (c < 0x110000)) = true) : c < 0x110000 := of_decide_eq_true (List.all_eq_true.mp h c hc)
theorem okS_letter {c : Nat} (h : c ∈ lettersS.cps.toList) : c < 0x110000 := by
  have f : ∀ c ∈ lettersS.cps.toList, decide (c < 0x110000) = true := by decide +kernel
  exact of_decide_eq_true (f c h)
theorem sum_len : ∀ {zs : List Str}, (∀ z ∈ zs, OkS 1 z) → (zs.map fun x => x.length).sum ≤ zs.length
  | [], _ => Nat.le_refl 0
  | z :: zs, h => by
    have h1 := (h z List.mem_cons_self).len
    have h2 := sum_len (zs := zs) fun x hx => h x (List.mem_cons_of_mem _ hx)
    simp only [List.map_cons, List.sum_cons, List.length_cons]
    omega
/-- values of which p, as a list of texts -/
theorem strs_of {ys : List V} {p : Str → Prop} (h : ∀ (i : Nat) (y : V), ys[i]? = some y → ∃ z, y = V.str z ∧ p z) : ∃ zs : List Str, ys = zs.map V.str ∧ ∀ z ∈ zs, p z := by
  induction ys with
  | nil => exact ⟨[], rfl, fun z hz => nomatch hz⟩
  | cons y r ih =>
    obtain ⟨z, rfl, hz⟩ := h 0 y (by simp)
    obtain ⟨zs, rfl, hs⟩ := ih fun i x e => h (i + 1) x (by simpa using e)
    exact ⟨z :: zs, rfl, fun w hw => (List.mem_cons.mp hw).elim (fun e => e ▸ hz) (hs w)⟩
/-- a name -/
structure Na (z : Str) : Prop where
  len : z.length ≤ 8
  fst : firstS z = true
  all : allS z = true
  nv : z ≠ "view"
theorem first_cut {z y : Str} (n : Nat) (h : firstS z = true) : firstS (cutS z none (some ((n + 1 : Nat) : Int)) ++ y) = true := by
  unfold firstS at h ⊢
  have e : (cutS z none (some ((n + 1 : Nat) : Int)) ++ y).cps.toList = (((z.cps.toList.drop (HT.sIx z.length 0 none)).take (HT.sIx z.length z.length (some ((n + 1 : Nat) : Int)) - HT.sIx z.length 0 none))) ++ y.cps.toList := by
    rw [show (cutS z none (some ((n + 1 : Nat) : Int)) ++ y).cps = (cutS z none (some ((n + 1 : Nat) : Int))).cps ++ y.cps from rfl, Array.toList_append]
    rfl
  rw [e]
  have e0 : HT.sIx z.length 0 none = 0 := rfl
  have hl : z.length = z.cps.toList.length := Array.length_toList.symm
  rw [HT.sIx_nat, e0, List.drop_zero, Nat.sub_zero]
  cases hz : z.cps.toList with
  | nil => rw [hz] at h; cases h
  | cons c r =>
    rw [hz] at h hl
    have : min (n + 1) z.length = min n r.length + 1 := by
      rw [hl, List.length_cons]
      omega
    rw [this]
    exact h
theorem all_app {a b : Str} (h : allS a = true) (k : allS b = true) : allS (a ++ b) = true := by
  unfold allS at *
  rw [show (a ++ b).cps = a.cps ++ b.cps from rfl, Array.toList_append, List.all_append, h, k]
  rfl
theorem all_cut {z : Str} (lo hi : Option Int) (h : allS z = true) : allS (cutS z lo hi) = true := by
  refine List.all_eq_true.mpr fun c hc => List.all_eq_true.mp h c ?_
  have hc : c ∈ ((z.cps.toList.drop (HT.sIx z.length 0 lo)).take (HT.sIx z.length z.length hi - HT.sIx z.length 0 lo)).toArray.toList := hc
  rw [List.toList_toArray] at hc
  exact List.mem_of_mem_drop (List.mem_of_mem_take hc)
theorem last_nv {a : Str} {c : Nat} (h : c ≠ 119) : a ++ (⟨#[c]⟩ : Str) ≠ "view" := fun e => by
  have e : (a.cps ++ #[c]).toList = ("view" : Str).cps.toList := congrArg (fun z : Str => z.cps.toList) e
  rw [Array.toList_append] at e
  have := congrArg List.getLast? e
  rw [List.getLast?_append] at this
  have : some c = some 119 := this
  exact h (Option.some.inj this)
theorem Na.oks {z : Str} (h : Na z) : OkS 8 z := ⟨h.len, fun c hc => okS_small (of_decide_eq_true (List.all_eq_true.mp h.all c hc))⟩
theorem Na.ne {z : Str} (h : Na z) : ∃ c r, z.cps.toList = c :: r ∧ c ∈ lettersS.cps.toList := by
  have := h.fst
  unfold firstS at this
  cases e : z.cps.toList with
  | nil => rw [e] at this; cases this
  | cons c r =>
    rw [e] at this
    exact ⟨c, r, rfl, of_decide_eq_true this⟩
theorem Na.pos {z : Str} (h : Na z) : 1 ≤ z.length := by
  obtain ⟨c, r, e, _⟩ := h.ne
  have : z.length = z.cps.toList.length := Array.length_toList.symm
  rw [this, e, List.length_cons]
  omega
theorem Na.name {z : Str} (h : Na z) : nameS z = true := by
  unfold nameS
  rw [decide_eq_false h.nv, h.fst, h.all, decide_eq_true h.len, decide_eq_true h.pos]
  rfl
theorem Na.sym {z : Str} (h : Na z) : (Tr.str z).sym = true := by
  show (nameS z || _) = true
  rw [h.name]
  rfl
theorem Na.sy {z : Str} (h : Na z) : Fm.SyOk z := by
  have fr : ∀ k, k ∉ signsS.cps.toList → k ∉ TL.tl z := fun k n m => n (of_decide_eq_true (List.all_eq_true.mp h.all k m))
  obtain ⟨c, r, e, hc⟩ := h.ne
  have e : TL.tl z = c :: r := e
  have lt : ∀ c ∈ lettersS.cps.toList, decide (97 ≤ c) = true := by decide +kernel
  have l97 : 97 ≤ c := of_decide_eq_true (lt c hc)
  refine ⟨by rw [e]; simp, fr 32 (by decide +kernel), fr 42 (by decide +kernel), fun d hd => ?_, fun q => ?_, fun d hd => ?_⟩
  · rw [e] at hd
    cases hd
    omega
  · rw [q] at e
    have : [48] = c :: r := e
    cases this
    omega
  · rw [e] at hd
    cases hd
    omega
theorem at_sy : Fm.SyOk "@" := by
  refine ⟨by decide +kernel, by decide +kernel, by decide +kernel, fun d hd => ?_, by decide +kernel, fun d hd => ?_⟩
  · have : some 64 = some d := hd
    cases this
    omega
  · have : some 64 = some d := hd
    cases this
    omega
def wordNa (z : Str) : Bool := decide (z.length ≤ 8) && (firstS z && (allS z && !decide (z = "view")))
theorem Na.lit {z : Str} (h : wordNa z = true) : Na z := by
  obtain ⟨h1, h⟩ := Bool.and_eq_true_iff.mp h
  obtain ⟨h2, h⟩ := Bool.and_eq_true_iff.mp h
  obtain ⟨h3, h⟩ := Bool.and_eq_true_iff.mp h
  exact ⟨of_decide_eq_true h1, h2, h3, fun e => by rw [decide_eq_true e] at h; cases h⟩
theorem let_sign {c : Nat} (h : c ∈ lettersS.cps.toList) : c ∈ signsS.cps.toList := by
  have f : ∀ c ∈ lettersS.cps.toList, decide (c ∈ signsS.cps.toList) = true := by decide +kernel
  exact of_decide_eq_true (f c h)
theorem join_all {zs : List Str} (h : ∀ z ∈ zs, allS z = true) : allS (Txt.join "" zs) = true := by
  show (TL.tl (Txt.join "" zs)).all _ = true
  rw [Fm.joinE ""]
  refine List.all_eq_true.mpr fun c hc => ?_
  obtain ⟨l, hl, hc⟩ := List.mem_flatten.mp hc
  obtain ⟨z, hz, rfl⟩ := List.mem_map.mp hl
  exact List.all_eq_true.mp (h z hz) c hc
theorem cut_le (z : Str) (k : Nat) : (cutS z none (some (k : Int))).length ≤ k := by
  show (((z.cps.toList.drop (HT.sIx z.length 0 none)).take (HT.sIx z.length z.length (some (k : Int)) - HT.sIx z.length 0 none)).toArray).size ≤ k
  rw [List.size_toArray, List.length_take]
  have h : HT.sIx z.length z.length (some (k : Int)) ≤ k := by
    rw [HT.sIx_nat]
    exact Nat.min_le_left _ _
  omega
/-- a list without a repeat within another is no longer -/
theorem nodup_le : ∀ {l m : List Str}, l.Nodup → (∀ x ∈ l, x ∈ m) → l.length ≤ m.length
  | [], m, _, _ => Nat.zero_le _
  | x :: l, m, d, h => by
    obtain ⟨nx, d⟩ := List.nodup_cons.mp d
    have hx := h x List.mem_cons_self
    have := nodup_le (l := l) (m := m.erase x) d fun y hy => (List.mem_erase_of_ne (fun e => nx (by rw [← e]; exact hy))).mpr (h y (List.mem_cons_of_mem _ hy))
    rw [List.length_erase_of_mem hx] at this
    have := List.length_pos_of_mem hx
    simp only [List.length_cons]
    omega
theorem append_left {a b c : Str} (h : a ++ b = a ++ c) : b = c := by
  have e : (a.cps ++ b.cps).toList = (a.cps ++ c.cps).toList := congrArg (fun z : Str => z.cps.toList) h
  rw [Array.toList_append, Array.toList_append] at e
  exact str_ext (List.append_cancel_left e)
theorem inV_strs (e : Str) : ∀ zs : List Str, inV (.str e) (zs.map V.str) = decide (e ∈ zs)
  | [] => by simp [inV]
  | z :: zs => by
    show ((z == e) || inV (.str e) (zs.map V.str)) = _
    rw [inV_strs e zs]
    by_cases h : e = z
    · subst h
      simp
    · have : (z == e) = false := beq_eq_false_iff_ne.mpr fun q => h q.symm
      rw [this]
      simp [h]
theorem flat_strs : ∀ zs : List Str, (zs.map V.str).all flatV = true
  | [] => rfl
  | z :: zs => by
    show (true && (zs.map V.str).all flatV) = true
    rw [flat_strs zs]
    rfl
theorem ofString_ok (z : String) : ∀ c ∈ TL.tl (Str.ofString z), c < 0x110000 := by
  intro c hc
  rw [Str.ofString_eq_toList] at hc
  have hc : c ∈ ((z.toList.map Char.toNat).toArray).toList := hc
  rw [List.toList_toArray] at hc
  obtain ⟨d, _, rfl⟩ := List.mem_map.mp hc
  have := d.valid
  have v : d.val.toNat < 0xd800 ∨ (0xdfff < d.val.toNat ∧ d.val.toNat < 0x110000) := d.valid
  show d.val.toNat < _
  omega
theorem line_ok : ∀ (ts : Tms) (l : Str), (∀ q ∈ ts, ∀ c ∈ TL.tl q.1, c < 0x110000) → (∀ c ∈ TL.tl l, c < 0x110000) → ∀ c ∈ TL.tl (Fm.lineS l ts), c < 0x110000
  | [], l, _, hl => hl
  | (s, f) :: r, l, h, hl => by
    have hs := h _ List.mem_cons_self
    have app : ∀ {a b : Str}, (∀ c ∈ TL.tl a, c < 0x110000) → (∀ c ∈ TL.tl b, c < 0x110000) → ∀ c ∈ TL.tl (a ++ b), c < 0x110000 := fun {a b} ha hb c hc => by
      rw [TL.tl_append] at hc
      exact (List.mem_append.mp hc).elim (ha c) (hb c)
    have lit : ∀ {a : Str}, ((TL.tl a).all fun c => decide (c < 0x110000)) = true → ∀ c ∈ TL.tl a, c < 0x110000 := fun h c hc => of_decide_eq_true (List.all_eq_true.mp h c hc)
    have hw : ∀ c ∈ TL.tl (Fm.wordS s f), c < 0x110000 := by
      unfold Fm.wordS
      split
      · exact hs
      · exact app (app (ofString_ok _) (lit (by decide +kernel))) hs
    refine line_ok r _ (fun q m => h q (List.mem_cons_of_mem _ m)) ?_
    split
    · refine app ?_ hw
      unfold Fm.sgn1
      split <;> exact lit (by decide +kernel)
    · refine app (app hl ?_) hw
      unfold Fm.sgnM
      split <;> exact lit (by decide +kernel)
theorem ok_small {z : Str} (h : PyData.strOk z = true) : ∀ c ∈ z.cps.toList, c < 16 ^ 8 := fun c hc => by
  have h : z.cps.all (· < 0x110000) = true := h
  rw [← Array.all_toList] at h
  have := of_decide_eq_true (List.all_eq_true.mp h c hc)
  omega
def Sm (z : Str) : Prop := ∀ c ∈ TL.tl z, c < 0x110000
theorem Sm.app {a b : Str} (ha : Sm a) (hb : Sm b) : Sm (a ++ b) := fun c hc => by
  rw [TL.tl_append] at hc
  exact (List.mem_append.mp hc).elim (ha c) (hb c)
theorem Sm.lit (z : String) : Sm (Str.ofString z) := ofString_ok z
theorem Sm.of {z : Str} (h : PyData.strOk z = true) : Sm z := fun c hc => by
  have h : z.cps.all (· < 0x110000) = true := h
  rw [← Array.all_toList] at h
  exact of_decide_eq_true (List.all_eq_true.mp h c hc)
theorem Sm.ok {z : Str} (h : Sm z) : PyData.strOk z = true := by
  show z.cps.all (· < 0x110000) = true
  rw [← Array.all_toList]
  exact List.all_eq_true.mpr fun c hc => decide_eq_true (h c hc)
theorem chr_sm (d : Char) : d.toNat < 0x110000 := by
  have v : d.val.toNat < 0xd800 ∨ (0xdfff < d.val.toNat ∧ d.val.toNat < 0x110000) := d.valid
  show d.val.toNat < _
  omega
open PySem.Builtin.Str in
theorem repr_sm (q c : Nat) (hc : c < 0x110000) : ∀ d ∈ reprChar q c, d < 0x110000 := by
  have hx : ∀ w : Nat, ∀ d ∈ List.replicate (w - ((Nat.toDigits 16 c).map Char.toNat).length) 48 ++ (Nat.toDigits 16 c).map Char.toNat, d < 0x110000 := fun w d hd => by
    rcases List.mem_append.mp hd with h | h
    · rw [(List.mem_replicate.mp h).2]
      decide
    · obtain ⟨e, _, rfl⟩ := List.mem_map.mp h
      exact chr_sm e
  have two : ∀ (a b : Nat) (l : List Nat), a < 0x110000 → b < 0x110000 → (∀ d ∈ l, d < 0x110000) → ∀ d ∈ [a, b] ++ l, d < 0x110000 := fun a b l ha hb hl d hd => by
    rcases List.mem_cons.mp hd with rfl | hd
    · exact ha
    rcases List.mem_cons.mp hd with rfl | hd
    · exact hb
    exact hl d hd
  unfold reprChar
  dsimp only
  split
  · exact two 92 c [] (by decide) hc nofun
  split
  · exact two 92 110 [] (by decide) (by decide) nofun
  split
  · exact two 92 114 [] (by decide) (by decide) nofun
  split
  · exact two 92 116 [] (by decide) (by decide) nofun
  split
  · intro d hd
    rw [List.mem_singleton.mp hd]
    exact hc
  split
  · exact two 92 120 _ (by decide) (by decide) (hx 2)
  split
  · exact two 92 117 _ (by decide) (by decide) (hx 4)
  · exact two 92 85 _ (by decide) (by decide) (hx 8)
theorem fold_sm (q : Nat) : ∀ (l : List Nat) (acc : Array Nat), (∀ c ∈ l, c < 0x110000) → (∀ c ∈ acc.toList, c < 0x110000) → ∀ c ∈ (l.foldl (fun out c => out ++ (PySem.Builtin.Str.reprChar q c).toArray) acc).toList, c < 0x110000
  | [], acc, _, ha => ha
  | c :: r, acc, h, ha => by
    refine fold_sm q r _ (fun d hd => h d (List.mem_cons_of_mem _ hd)) fun d hd => ?_
    rw [Array.toList_append] at hd
    rcases List.mem_append.mp hd with k | k
    · exact ha d k
    · exact repr_sm q c (h c List.mem_cons_self) d k
theorem Sm.repr {z : Str} (h : Sm z) : Sm (reprText z) := by
  have hq : reprQuote z < 0x110000 := by
    unfold reprQuote
    split <;> decide
  intro c hc
  have hc : c ∈ ((z.cps.foldl (fun out c => out ++ (PySem.Builtin.Str.reprChar (reprQuote z) c).toArray) #[reprQuote z]).push (reprQuote z)).toList := hc
  rw [Array.toList_push] at hc
  rcases List.mem_append.mp hc with k | k
  · rw [← Array.foldl_toList] at k
    exact fold_sm _ _ _ h (fun d hd => by rw [List.mem_singleton.mp hd]; exact hq) c k
  · rw [List.mem_singleton.mp k]
    exact hq
theorem textFrom_sm : ∀ (ts : List Str) (k : Nat) (acc : Str), (∀ t ∈ ts, Sm t) → Sm acc → Sm (textFrom k acc ts)
  | [], _, _, _, h => h
  | t :: r, k, acc, h, ha => textFrom_sm r (k + 1) _ (fun u hu => h u (List.mem_cons_of_mem _ hu)) ((ha.app (Sm.lit _)).app (h t List.mem_cons_self))
theorem Sm.list {ts : List Str} (h : ∀ t ∈ ts, Sm t) : Sm (listText ts) := (textFrom_sm ts 0 "[" h (Sm.lit _)).app (Sm.lit _)
theorem join_sm {sep : Str} (hs : Sm sep) : ∀ (ts : List Str), (∀ t ∈ ts, Sm t) → Sm (Str.join sep ts)
  | [], _ => fun c hc => by cases (show c ∈ ([] : List Nat) from hc)
  | [x], h => h x List.mem_cons_self
  | x :: y :: r, h => ((h x List.mem_cons_self).app hs).app (join_sm hs (y :: r) fun t ht => h t (List.mem_cons_of_mem _ ht))
theorem Sm.tuple {ts : List Str} (h : ∀ t ∈ ts, Sm t) : Sm (tupleText ts) := ((Sm.lit "(").app (join_sm (Sm.lit _) ts h)).app (Sm.lit _)
theorem text_okN {ts : Tms} (h : ∀ q ∈ ts, Na q.1) : PyData.strOk (Fm.textS ts) = true := by
  show (Fm.textS ts).cps.all (· < 0x110000) = true
  rw [← Array.all_toList]
  refine List.all_eq_true.mpr fun c hc => decide_eq_true ?_
  have hl := line_ok ts "" (fun q m => (h q m).oks.ok) (fun c hc => by cases (show c ∈ ([] : List Nat) from hc))
  unfold Fm.textS at hc
  split at hc
  · have : c ∈ [48] := hc
    rw [List.mem_singleton.mp this]
    decide
  · exact hl c hc
theorem Na.nm {z : Str} (h : Na z) : nmOk z := ⟨h.name, h.len⟩
theorem Na.sm {z : Str} (h : Na z) : Sm z := .of h.oks.strOk
theorem text_smN {ts : Tms} (h : ∀ q ∈ ts, Na q.1) : Sm (Fm.textS ts) := .of (text_okN h)
theorem first_app {a b : Str} (h : firstS a = true) : firstS (a ++ b) = true := by
  unfold firstS at *
  rw [show (a ++ b).cps = a.cps ++ b.cps from rfl, Array.toList_append]
  cases hz : a.cps.toList with
  | nil => rw [hz] at h; cases h
  | cons c r => rw [hz] at h; exact h
/-- a name drawn -/
theorem PurseAt.ne {H : Hp} {a p : Addr} {n : Int} {zs : List Str} (h : PurseAt H a n) (e : H p = some (.lst (zs.map V.str))) : p ≠ a := fun q => by
  obtain ⟨d, s, k, e2, _⟩ := h.ex
  rw [q, e2] at e
  cases zs with
  | nil => cases e
  | cons z r => simp at e
def menuP (z : Str) (j : Nat) : Str := cutS z none (some 5) ++ Str.ofString (toString (100 + (0 + (j : Int))))
theorem menuP_na {z : Str} {j : Nat} (h : Na z) (hj : j < 30) : Na (menuP z j) := by
  have f : ∀ j : Fin 30, decide ((Str.ofString (toString (100 + (0 + (j.1 : Int))))).length = 3 ∧ allS (Str.ofString (toString (100 + (0 + (j.1 : Int))))) = true ∧ 49 ∈ (Str.ofString (toString (100 + (0 + (j.1 : Int))))).cps.toList) = true := by decide +kernel
  obtain ⟨f1, f2, f3⟩ := of_decide_eq_true (f ⟨j, hj⟩)
  have l5 := cut_le z 5
  refine ⟨?_, first_cut 4 h.fst, all_app (all_cut _ _ h.all) f2, fun e => ?_⟩
  · unfold menuP
    rw [strLen_append, f1]
    exact Nat.add_le_add_right l5 3
  · have m : 49 ∈ (menuP z j).cps.toList := by
      show 49 ∈ ((cutS z none (some 5)).cps ++ (Str.ofString (toString (100 + (0 + (j : Int))))).cps).toList
      rw [Array.toList_append]
      exact List.mem_append_right _ f3
    rw [e] at m
    exact absurd m (by decide +kernel)
theorem menuP_inj {z : Str} {i j : Nat} (hi : i < 30) (hj : j < 30) (h : menuP z i = menuP z j) : i = j := by
  have e := append_left h
  have f : ∀ i j : Fin 30, Str.ofString (toString (100 + (0 + (i.1 : Int)))) = Str.ofString (toString (100 + (0 + (j.1 : Int)))) → i = j := by decide +kernel
  exact congrArg Fin.val (f ⟨i, hi⟩ ⟨j, hj⟩ e)
theorem menuP_left {z : Str} {zs : List Str} (hz : zs.length < 30) : (((z :: (List.range 30).map (menuP z)).filter fun e => !decide (e ∈ zs))) ≠ [] := by
  intro q
  have all : ∀ x ∈ (List.range 30).map (menuP z), x ∈ zs := fun x hx => by
    have := List.filter_eq_nil_iff.mp q x (List.mem_cons_of_mem _ hx)
    simpa using this
  have nd : ((List.range 30).map (menuP z)).Nodup := by
    refine List.pairwise_map.mpr ((List.pairwise_lt_range (n := 30)).imp_of_mem fun {a b} ha hb lt e => ?_)
    have := menuP_inj (z := z) (List.mem_range.mp ha) (List.mem_range.mp hb) e
    omega
  have := nodup_le nd all
  rw [List.length_map, List.length_range] at this
  omega
def spOther : Sp := fun vs H Q _ => ∃ (a p : Addr) (n : Int) (zs : List Str), vs = [.ref a, .ref p] ∧ PurseAt H a n ∧ n ≤ 80000 ∧ H p = some (.lst (zs.map V.str)) ∧ zs.length < 30 ∧ ∀ z H', Na z → Spent a n 9 H H' → Q (.str z) H'
def namesL : List Str := ["buf", "aux", "cap", "room", "top", "k", "m", "given", "out", "len", "head", "x1"]
def wordsP : List Str := ["all", "any", "not", "if", "end", "else", "fill", "let", "copy", "size", "input", "reversed"]
theorem lists_na : ∀ z ∈ namesL ++ wordsP, Na z := by
  have f : ∀ z ∈ namesL ++ wordsP, wordNa z = true := by decide +kernel
  exact fun z hz => .lit (f z hz)
def drawnW (r t : Int) (j : Nat) : Str := (if r = 0 then namesL else wordsP).getD ((t + (0 + (j : Int))) % 12).toNat "a"
theorem drawnW_na {r t : Int} {j : Nat} : Na (drawnW r t j) := by
  unfold drawnW
  rw [List.getD_eq_getElem?_getD]
  cases e : (if r = 0 then namesL else wordsP)[((t + (0 + (j : Int))) % 12).toNat]? with
  | none => exact .lit (by decide +kernel)
  | some z =>
    have m := List.mem_of_getElem? e
    refine lists_na z ?_
    split at m
    · exact List.mem_append_left _ m
    · exact List.mem_append_right _ m
def spNamesP : Sp := fun vs H Q _ => ∃ (a : Addr) (n m : Int), vs = [.ref a, .int m] ∧ PurseAt H a n ∧ n ≤ 70000 ∧ 1 ≤ m ∧ m ≤ 5 ∧ ∀ (zs : List Str) p H', zs.length = m.toNat → (∀ z ∈ zs, Na z) → Spent a n 60 H H' → H p = none → H' p = some (.lst (zs.map V.str)) → Q (.ref p) H'
def spNameP : Sp := fun vs H Q _ => ∃ (a : Addr) (n : Int), vs = [.ref a] ∧ PurseAt H a n ∧ n ≤ 90000 ∧ ∀ z H', Na z → Spent a n 9 H H' → Q (.str z) H'
theorem rng {n : Nat} (h : n ≤ 1000000) : n ≤ sizeLine := Nat.le_trans h (by decide)
section
variable {P : Program} {w : World} {K : PySem.W.Frag} {mg : Str → Option Value} {base : Heap}
variable (c__law_take : Cal P w K mg base 1 "_law_take" ["_law_purse_here", "_law_many"] spTake)
include c__law_take
theorem ok_law_name {f : Addr} {fd : FuncData} (F : Fun K "_law_name" "_law_name" s__law_name f fd) (T : Ta mg) : FnG P w K mg base 2 f fd ["_law_purse_here"] spNameP := by
  refine okG F sc__law_name (fun vs H Q E h => ?_) (fun cdv A outer s H vs Q hr h => ?_)
  · obtain ⟨a, n, rfl, _⟩ := h
    rfl
  · obtain ⟨a, n, rfl, hp, hn, k⟩ := h
    refine ⟨_, (pss_cons (ps_set (i := 1) sc__law_name.nd rfl (by first | exact .inl rfl | exact .inr rfl) pe_str)
  (pss_cons (ps_set (i := 2) sc__law_name.nd rfl (by first | exact .inl rfl | exact .inr rfl) (pe_op op_add_str (pv 1) pe_str))
  (pss_cons (ps_set (i := 3) sc__law_name.nd rfl (by first | exact .inl rfl | exact .inr rfl) (pe_ix ix_str (pv 1) (pe_c c__law_take hr (by decide) rfl (pa_cons (pv 0) (pa_cons pe_int pa_nil))) (fun _ _ => rfl)))
  (pss_cons (ps_for PassesOwn.never rfl (pi_range1 rfl T.b_range (pa_cons (pe_c c__law_take hr (by decide) rfl (pa_cons (pv 0) (pa_cons pe_int pa_nil))) pa_nil)) (pg_name (i := 4) sc__law_name.nd rfl (by first | exact .inl rfl | exact .inr rfl))
    (pss_one (ps_set (i := 3) sc__law_name.nd rfl (by first | exact .inl rfl | exact .inr rfl) (pe_op op_add_str (pv 3) (pe_ix ix_str (pv 2) (pe_c c__law_take hr (by decide) rfl (pa_cons (pv 0) (pa_cons pe_int pa_nil))) (fun _ _ => rfl))))))
  (pss_one (ps_ret (pe_mid (pe_ifExp (pt_cmpR op_ne (pv 3) pe_str (nomark _)) (pv 3) pe_str)))))))), ?_⟩
    refine ⟨_, rfl, _, _, rfl, rfl, rng (by decide), ?_⟩
    refine ⟨_, rfl, _, rfl, a, 26, n, rfl, hp, by omega, by decide, by decide, fun r H1 r0 r1 p1 => ?_⟩
    obtain ⟨c, e1, m1⟩ := at_nat (xs := lettersS.cps.toList) r0 (by rw [show lettersS.cps.toList.length = 26 by decide +kernel]; exact r1)
    refine ⟨_, r, c, rfl, rfl, rng (by decide), e1, ?_⟩
    refine ⟨_, rfl, a, 8, n + 1, rfl, p1.pu, by omega, by decide, by decide, fun m H2 m0 m8 p2 => ?_⟩
    refine ⟨m, rfl, by omega, by omega, for_it (walk_range (lo := 0) (n := m.toNat)) (fun i σ H' => ∃ (z : Str) (x1 x4 : Option V), σ = [some (.ref a), x1, some (.str (Str.ofString "abcdefghijklmnopqrstuvwxyz" ++ Str.ofString "0123456789")), some (.str z), x4] ∧ firstS z = true ∧ allS z = true ∧ z.length = i + 1 ∧ Spent a n (2 + (i : Int)) H H')
      ⟨_, _, _, rfl, decide_eq_true m1, ?_, rfl, p1.trans p2 (by omega)⟩ (fun _ _ _ _ _ => True.intro) ?_ ?_⟩
    · show ([c].all fun c => decide (c ∈ signsS.cps.toList)) = true
      simp only [List.all_cons, List.all_nil, Bool.and_true]
      exact decide_eq_true (let_sign m1)
    · rintro i x σ H3 H3' hi ⟨z, x1, x4, rfl, f1, f2, f3, p3⟩ ⟨rfl, rfl⟩
      refine ⟨_, rfl, _, rfl, _, rfl, a, 36, _, rfl, p3.pu, by omega, by decide, by decide, fun r4 H4 r40 r41 p4 => ?_⟩
      obtain ⟨c4, e4, m4⟩ := at_nat (xs := signsS.cps.toList) r40 (by rw [show signsS.cps.toList.length = 36 by decide +kernel]; exact r41)
      refine ⟨_, r4, c4, rfl, rfl, rng (by decide), e4, _, _, rfl, rfl, rng (by show z.length + 1 ≤ _; omega), _, _, _, rfl, first_app f1, all_app f2 ?_, ?_, p3.trans p4 (by omega)⟩
      · show ([c4].all fun c => decide (c ∈ signsS.cps.toList)) = true
        simp only [List.all_cons, List.all_nil, Bool.and_true]
        exact decide_eq_true m4
      · rw [strLen_append, f3]
        rfl
    · rintro σ H5 ⟨z, x1, x4, rfl, f1, f2, f3, p5⟩
      refine ⟨fun v H' => ∃ z', v = .str z' ∧ Na z' ∧ H' = H5, ⟨_, rfl, rfl, _, rfl, ite2 (fun hv => ⟨_, rfl, z, rfl, ⟨by omega, f1, f2, fun e => ?_⟩, rfl⟩) fun _ => ⟨_, rfl, .lit (by decide +kernel), rfl⟩⟩, fun v H' ⟨z', e, na, eH⟩ => ?_⟩
      · subst e
        exact absurd hv (by decide)
      · subst e eH
        exact k z' _ na (p5.le (by omega))
theorem ok_law_other_name {f : Addr} {fd : FuncData} (F : Fun K "_law_other_name" "_law_other_name" s__law_other_name f fd) (T : Ta mg) (c__law_name : Cal P w K mg base 2 "_law_name" ["_law_purse_here"] spNameP) : FnG P w K mg base 3 f fd ["_law_purse_here", "_law_taken"] spOther := by
  refine okG F sc__law_other_name (fun vs H Q E h => ?_) (fun cdv A outer s H vs Q hr h => ?_)
  · obtain ⟨a, p, n, zs, rfl, _⟩ := h
    rfl
  · obtain ⟨a, p, n, zs, rfl, hp, hn, hz, lz, k⟩ := h
    refine ⟨_, (pss_cons (ps_set (i := 2) sc__law_other_name.nd rfl (by first | exact .inl rfl | exact .inr rfl) (pe_c c__law_name hr (by decide) rfl (pa_cons (pv 0) pa_nil)))
  (pss_cons (ps_set (i := 3) sc__law_other_name.nd rfl (by first | exact .inl rfl | exact .inr rfl) (pe_op op_catS (pe_lstS (pa_cons (pv 2) pa_nil)) (pe_lc (own := [("_law_k", 4)]) (g := gName 4) (tt := tYes) rfl sc__law_other_name.nd (pi_range1 rfl T.b_range (pa_cons pe_int pa_nil)) (blkOk_by (own := [("_law_k", 4)]) (N := n__law_other_name) (sc := defScope s__law_other_name) (by decide +kernel)) (fun _ _ _ _ _ => pg_name (i := 4) sc__law_other_name.nd rfl (Or.inl rfl)) (fun _ _ _ _ _ => pts_nil) (fun _ _ _ _ _ => (pe_op op_add_str (pe_slice sl_str (pv 2) po_none (po_some pe_int)) (pe_callTy call_str_int (by rfl) T.b_str (by decide +kernel) (pa_cons (pe_op op_add pe_int (pv 4)) pa_nil)))))))
  (pss_one (ps_ret (pe_ix ix_list (pe_lc (own := [("_law_each", 5)]) (g := gName 5) rfl sc__law_other_name.nd (pi_list (pv 3)) (blkOk_by (own := [("_law_each", 5)]) (N := n__law_other_name) (sc := defScope s__law_other_name) (by decide +kernel)) (fun _ _ _ _ _ => pg_name (i := 5) sc__law_other_name.nd rfl (Or.inl rfl)) (fun _ _ _ _ _ => (pts_one (pt_cmpR (r := rIn K true) op_notIn_seq (pv 5) (pv 1) rfl))) (fun _ _ _ _ _ => (pv 5))) pe_int (fun _ _ => rfl)))))), ?_⟩
    have pa := hp.ne hz
    refine ⟨_, rfl, a, n, rfl, hp, by omega, fun z H1 oz p1 => ?_⟩
    have hz1 := p1.off _ _ pa hz
    refine ⟨_, rfl, (by show 1 ≤ sizeLine; decide), fun p2 H2 n2 s2 h2 => ?_⟩
    refine ⟨30, rfl, by decide, by decide, fun D hD => lc_fn (walk_range (lo := 0) (n := 30)) (fun j => .str (menuP z j)) (by decide) hD (fun _ _ => True.intro) (fun j x H6 H7 Q' hj s6 y kq => ?_) fun H6 s6 d => ?_⟩
    · obtain ⟨rfl, rfl⟩ := y
      have o8 := menuP_na oz hj
      refine ⟨rfl, _, rfl, _, rfl, z, rfl, rng (by have := oz.len; omega), _, rfl, _, _, rfl, rfl, _, rfl, ilog (Nat.lt_of_le_of_lt (show _ ≤ 130 by omega) (by decide)), _, _, rfl, rfl, rng ?_, kq _ (Same.refl _)⟩
      have e : (menuP z j).length = (cutS z none (some 5)).length + (Str.ofString (toString (100 + (0 + (j : Int))))).length := strLen_append _ _
      have := o8.len
      omega
    · have d : H6 D = some (.lst (((List.range 30).map (menuP z)).map V.str)) := by
        rw [d, List.map_map]
        rfl
      refine ⟨p2, D, _, _, rfl, rfl, s6 _ _ h2, d, ?_, fun p8 H8 n8 s8 h8 => ?_⟩
      · rw [List.length_map, List.length_map, List.length_range]
        exact rng (by simp)
      · obtain ⟨ms, hms⟩ : ∃ ms : List Str, ms = z :: (List.range 30).map (menuP z) := ⟨_, rfl⟩
        have h8 : H8 p8 = some (.lst (ms.map V.str)) := by
          rw [hms]
          exact h8
        have t8 : Same H1 H8 := (s2.trans s6).trans s8
        have hz8 := t8 _ _ hz1
        have om : ∀ e ∈ ms, Na e := fun e he => by
          rw [hms] at he
          rcases List.mem_cons.mp he with rfl | he
          · exact oz
          · obtain ⟨j, hj, rfl⟩ := List.mem_map.mp he
            exact menuP_na oz (List.mem_range.mp hj)
        have ml : ms.length ≤ 31 := by
          rw [hms, List.length_cons, List.length_map, List.length_range]
          omega
        refine ⟨_, rfl, p8, rfl, ⟨_, SqL.of h8⟩, fun D2 hD2 => lc_it walk_list (fun j H' => Same H8 H' ∧ H' D2 = some (.lst (((ms.take j).filter fun e => !decide (e ∈ zs)).map V.str))) ⟨Same.new hD2, upd_same⟩ (fun j H' _ ⟨s', _⟩ => SqL.of (s' _ _ h8)) (fun j x H9 H10 hj ⟨s9, d9⟩ y => ?_) fun H9 ⟨s9, d9⟩ => ?_⟩
        · obtain ⟨rfl, hx⟩ := y
          rw [List.getElem?_map] at hx
          obtain ⟨e, he, rfl⟩ := Option.map_eq_some_iff.mp hx
          have tk : ms.take (j + 1) = ms.take j ++ [e] := by
            rw [List.take_add_one, he]
            rfl
          refine ⟨rfl, _, rfl, _, rfl, p, _, rfl, .inl (SqL.of (s9 _ _ hz8)), rfl, flat_strs zs, _, rfl, ?_⟩
          show if (!inV (.str e) (zs.map V.str)) = true then _ else _
          rw [inV_strs]
          refine ite2 (fun hb => ⟨_, rfl, _, d9, ?_, fun b o q => ?_, ?_⟩) fun hb => ⟨s9, ?_⟩
          · rw [List.length_map]
            exact Nat.lt_of_le_of_lt (Nat.le_trans (List.length_filter_le _ _) (List.length_take_le _ _)) (Nat.lt_of_le_of_lt (show j ≤ 31 by rw [List.length_map] at hj; omega) (by decide))
          · rw [upd_ne (ne_of_none q hD2)]
            exact s9 _ _ q
          · rw [upd_same, tk, List.filter_append, List.map_append, List.filter_cons_of_pos (p := fun e => !decide (e ∈ zs)) (a := e) hb]
            rfl
          · rw [tk, List.filter_append, List.filter_cons_of_neg (p := fun e => !decide (e ∈ zs)) (a := e) hb, List.filter_nil, List.append_nil]
            exact d9
        · rw [List.length_map, List.take_length] at d9
          have ne := menuP_left (z := z) (zs := zs) lz
          rw [← hms] at ne
          cases hf : ms.filter fun e => !decide (e ∈ zs) with
          | nil => exact absurd hf ne
          | cons e r =>
            rw [hf] at d9
            have fe := List.mem_filter.mp (show e ∈ ms.filter fun e => !decide (e ∈ zs) by rw [hf]; exact List.mem_cons_self)
            exact ⟨D2, _, 0, _, rfl, rfl, SqL.of d9, L2.atI_nat (j := 0) rfl, k e H9 (om e fe.1) (p1.same (t8.trans s9))⟩
theorem ok_law_names {f : Addr} {fd : FuncData} (F : Fun K "_law_names" "_law_names" s__law_names f fd) (T : Ta mg) (c__law_other_name : Cal P w K mg base 3 "_law_other_name" ["_law_purse_here", "_law_taken"] spOther) : FnG P w K mg base 4 f fd ["_law_purse_here", "_law_many"] spNamesP := by
  refine okG F sc__law_names (fun vs H Q E h => ?_) (fun cdv A outer s H vs Q hr h => ?_)
  · obtain ⟨a, n, m, rfl, _⟩ := h
    rfl
  · obtain ⟨a, n, m, rfl, hp, hn, m1, m5, k⟩ := h
    refine ⟨_, (pss_cons (ps_asg (pe_tupS (pa_cons (pe_c c__law_take hr (by decide) rfl (pa_cons (pv 0) (pa_cons pe_int pa_nil))) (pa_cons (pe_c c__law_take hr (by decide) rfl (pa_cons (pv 0) (pa_cons pe_int pa_nil))) pa_nil))) (pg_tup rfl (pgs_cons (pg_name (i := 2) sc__law_names.nd rfl (by first | exact .inl rfl | exact .inr rfl)) (pgs_cons (pg_name (i := 3) sc__law_names.nd rfl (by first | exact .inl rfl | exact .inr rfl)) pgs_nil))))
  (pss_cons (ps_set (i := 4) sc__law_names.nd rfl (by first | exact .inl rfl | exact .inr rfl) (pe_lstS (pa_cons pe_str (pa_cons pe_str (pa_cons pe_str (pa_cons pe_str (pa_cons pe_str (pa_cons pe_str (pa_cons pe_str (pa_cons pe_str (pa_cons pe_str (pa_cons pe_str (pa_cons pe_str (pa_cons pe_str pa_nil))))))))))))))
  (pss_cons (ps_set (i := 5) sc__law_names.nd rfl (by first | exact .inl rfl | exact .inr rfl) (pe_lstS (pa_cons pe_str (pa_cons pe_str (pa_cons pe_str (pa_cons pe_str (pa_cons pe_str (pa_cons pe_str (pa_cons pe_str (pa_cons pe_str (pa_cons pe_str (pa_cons pe_str (pa_cons pe_str (pa_cons pe_str pa_nil))))))))))))))
  (pss_cons (ps_if (pt_cmpR op_lt (pv 2) pe_int (nomark _))
    (pss_one (ps_ret (pe_lc (own := [("_law_k", 6)]) (g := gName 6) (tt := tYes) rfl sc__law_names.nd (pi_range1 rfl T.b_range (pa_cons (pv 1) pa_nil)) (blkOk_by (own := [("_law_k", 6)]) (N := n__law_names) (sc := defScope s__law_names) (by decide +kernel)) (fun _ _ _ _ _ => pg_name (i := 6) sc__law_names.nd rfl (Or.inl rfl)) (fun _ _ _ _ _ => pts_nil) (fun _ _ _ _ _ => (pe_ix (ix_listB (K := K) rfl) (pe_ix (ix_listB (K := K) rfl) (pe_lstS (pa_cons (pv 4) (pa_cons (pv 5) pa_nil))) (pv 2) (fun _ _ => rfl)) (pe_op op_mod (pe_callTy call_int1 (by rfl) T.b_int (by decide +kernel) (pa_cons (pe_op op_add (pv 3) (pv 6)) pa_nil)) pe_int) (fun _ _ => rfl))))))
    pss_nil)
  (pss_cons (ps_set (i := 7) sc__law_names.nd rfl (by first | exact .inl rfl | exact .inr rfl) (pe_lstS pa_nil))
  (pss_cons (ps_for PassesOwn.never rfl (pi_range1 rfl T.b_range (pa_cons (pv 1) pa_nil)) (pg_name (i := 6) sc__law_names.nd rfl (by first | exact .inl rfl | exact .inr rfl))
    (pss_one (ps_expr (pe_bm PySem.F.plainAttrs_list PySem.F.slot_list_append PySem.F.type_list_append mt_append (pv 7) (pa_cons (pe_c c__law_other_name hr (by decide) rfl (pa_cons (pv 0) (pa_cons (pv 7) pa_nil))) pa_nil)))))
  (pss_one (ps_ret (pv 7))))))))), ?_⟩
    refine ⟨_, rfl, a, 3, n, rfl, hp, by omega, by decide, by decide, fun r H1 r0 r1 p1 => ?_⟩
    refine ⟨_, rfl, a, 12, n + 1, rfl, p1.pu, by omega, by decide, by decide, fun t H2 t0 t1 p2 => ?_⟩
    refine ⟨(by show 2 ≤ sizeLine; decide), fun q H3 nq s3 hq => ⟨q, _, rfl, SqT.of hq, rfl, _, _, rfl, _, _, rfl, rfl, ?_⟩⟩
    refine ⟨(by show 12 ≤ sizeLine; decide), fun pk H4 nk s4 hk => ?_⟩
    refine ⟨(by show 12 ≤ sizeLine; decide), fun pw H5 nw s5 hw => ?_⟩
    have hk : H5 pk = some (.lst (namesL.map V.str)) := s5 _ _ hk
    have hw : H5 pw = some (.lst (wordsP.map V.str)) := hw
    have p5 : Spent a n 2 H H5 := (p1.trans p2 (by omega)).same ((s3.trans s4).trans s5)
    refine ⟨_, rfl, _, _, rfl, rfl, _, rfl, ite2 (fun hc => ?_) fun _ => ?_⟩
    · have hr2 : r < 2 := of_decide_eq_true hc
      refine ⟨_, rfl, m, rfl, by omega, by omega, fun D hD => lc_fn (walk_range (lo := 0) (n := m.toNat)) (fun j => .str (drawnW r t j)) (by omega) hD (fun _ _ => True.intro) (fun j x H6 H7 Q' hj s6 y kq => ?_) fun H6 s6 d => ?_⟩
      · obtain ⟨rfl, rfl⟩ := y
        have hr01 : r = 0 ∨ r = 1 := by omega
        refine ⟨rfl, _, rfl, _, rfl, (by show 2 ≤ sizeLine; decide), fun pl G nl sl hl => ?_⟩
        have hkG := sl _ _ (s6 _ _ hk)
        have hwG := sl _ _ (s6 _ _ hw)
        have i0 := Int.emod_nonneg (t + (0 + (j : Int))) (show (12 : Int) ≠ 0 by decide)
        have i1 := Int.emod_lt_of_pos (t + (0 + (j : Int))) (show (0 : Int) < 12 by decide)
        have ix : ∀ l : List Str, l.length = 12 → atI (l.map V.str) ((t + (0 + (j : Int))) % 12) = some (.str (l.getD ((t + (0 + (j : Int))) % 12).toNat "a")) := fun l hl => by
          obtain ⟨u, hu⟩ : ∃ u : Nat, (t + (0 + (j : Int))) % 12 = (u : Int) := ⟨_, (Int.toNat_of_nonneg i0).symm⟩
          rw [hu]
          have lu : u < l.length := by omega
          refine L2.atI_nat ?_
          rw [List.getElem?_map, Int.toNat_natCast, List.getD_eq_getElem?_getD, List.getElem?_eq_getElem lu]
          rfl
        rcases hr01 with rfl | rfl
        · exact ⟨_, rfl, pl, _, 0, _, rfl, rfl, SqL.of hl, L2.atI_nat (j := 0) rfl, _, rfl, _, rfl, _, _, rfl, rfl, .inl ⟨_, rfl, _, _, rfl, rfl, (by show (0 : Int) < 12; decide), pk, _, _, _, rfl, rfl, SqL.of hkG, ix namesL rfl, kq _ sl⟩⟩
        · exact ⟨_, rfl, pl, _, 1, _, rfl, rfl, SqL.of hl, L2.atI_nat (j := 1) rfl, _, rfl, _, rfl, _, _, rfl, rfl, .inl ⟨_, rfl, _, _, rfl, rfl, (by show (0 : Int) < 12; decide), pw, _, _, _, rfl, rfl, SqL.of hwG, ix wordsP rfl, kq _ sl⟩⟩
      · have d : H6 D = some (.lst (((List.range m.toNat).map (drawnW r t)).map V.str)) := by
          rw [d, List.map_map]
          rfl
        have p6 := p5.same s6
        have da := p6.pu.ne d
        have nD : H D = none := by
          cases e : H D with
          | none => rfl
          | some o => exact absurd ((p5.off _ _ da e).symm.trans hD) (by simp)
        refine k _ D H6 (by rw [List.length_map, List.length_range]) (fun z hz => ?_) (p6.le (by omega)) nD d
        obtain ⟨j, _, rfl⟩ := List.mem_map.mp hz
        exact drawnW_na
    · refine ⟨Nat.zero_le _, fun F0 H6 n6 s6 h6 => ?_⟩
      have p6 := p5.same s6
      have fa : F0 ≠ a := p6.pu.ne (zs := []) h6
      have nF : H F0 = none := by
        cases e : H F0 with
        | none => rfl
        | some o => exact absurd ((p5.off _ _ fa e).symm.trans n6) (by simp)
      refine ⟨_, rfl, m, rfl, by omega, by omega, for_it (walk_range (lo := 0) (n := m.toNat)) (fun i σ H' => ∃ (zs : List Str) (x6 : Option V), σ = [some (.ref a), some (.int m), some (.int r), some (.int t), some (.ref pk), some (.ref pw), x6, some (.ref F0)] ∧ zs.length = i ∧ (∀ z ∈ zs, Na z) ∧ H' F0 = some (.lst (zs.map V.str)) ∧ Spent a n (2 + 9 * (i : Int)) H H')
        ⟨[], _, rfl, rfl, (fun z hz => nomatch hz), h6, p6.le (by omega)⟩ (fun _ _ _ _ _ => True.intro) ?_ ?_⟩
      · rintro i x σ G G' hi ⟨zs, x6, rfl, lz, oz, hF, pG⟩ ⟨rfl, rfl⟩
        refine ⟨_, rfl, .inl ⟨rfl, _, SqL.of hF⟩, _, rfl, _, rfl, a, F0, _, zs, rfl, pG.pu, by omega, hF, by omega, fun z G2 na pz => ?_⟩
        have hF2 := pz.off _ _ fa hF
        have pq := pG.trans pz (e := 2 + 9 * ((i + 1 : Nat) : Int)) (by omega)
        refine ⟨F0, _, _, rfl, rfl, hF2, ?_, zs ++ [z], _, rfl, ?_, ?_, ?_, ⟨fun b o nb e => ?_, ?_⟩⟩
        · rw [List.length_map]
          exact Nat.lt_of_le_of_lt (show zs.length ≤ 5 by omega) (by decide)
        · rw [List.length_append, lz]
          rfl
        · intro y hy
          rcases List.mem_append.mp hy with h | h
          · exact oz y h
          · rw [List.mem_singleton.mp h]
            exact na
        · rw [upd_same, List.map_append]
          rfl
        · rw [upd_ne (ne_of_none e nF)]
          exact pq.off b o nb e
        · obtain ⟨d, z2, k2, e2, r2⟩ := pq.pu.ex
          exact ⟨d, z2, k2, by rw [upd_ne fa.symm]; exact e2, r2⟩
      · rintro σ G ⟨zs, x6, rfl, lz, oz, hF, pG⟩
        exact ⟨_, rfl, k zs F0 G lz oz (pG.le (by omega)) nF hF⟩
end
end Lw

/-! ## StD -/
set_option maxHeartbeats 1000000
namespace Lw
open PySem PySem.Spec PyProof.Rows L2
open Fm (cf Asc Nm)
abbrev s__law_total : Stmt := topS 76
abbrev n__law_total : List Str := ["_law_pairs", "_law_found", "_law_symbol", "_law_number"]
theorem sc__law_total : FnScope n__law_total ["_law_pairs"] (defScope s__law_total) := ⟨rfl, rfl, rfl, by decide +kernel, rfl, by decide +kernel, by decide +kernel⟩
abbrev s__law_small : Stmt := topS 79
abbrev n__law_small : List Str := ["_law_terms", "_law_symbol", "_law_number"]
theorem sc__law_small : FnScope n__law_small ["_law_terms"] (defScope s__law_small) := ⟨rfl, rfl, rfl, by decide +kernel, rfl, by decide +kernel, by decide +kernel⟩
abbrev s__law_form : Stmt := topS 78
abbrev n__law_form : List Str := ["_law_purse_here", "_law_symbols", "_law_found", "_law_turn", "_law_number"]
theorem sc__law_form : FnScope n__law_form ["_law_purse_here", "_law_symbols"] (defScope s__law_form) := ⟨rfl, rfl, rfl, by decide +kernel, rfl, by decide +kernel, by decide +kernel⟩
abbrev s__law_say : Stmt := topS 77
abbrev n__law_say : List Str := ["_law_terms", "_law_line", "_law_symbol", "_law_number", "_law_word"]
theorem sc__law_say : FnScope n__law_say ["_law_terms"] (defScope s__law_say) := ⟨rfl, rfl, rfl, by decide +kernel, rfl, by decide +kernel, by decide +kernel⟩
def LTerms (H : Hp) (p : Addr) (ts : Tms) : Prop := ∃ ps : List Addr, H p = some (.lst (ps.map V.ref)) ∧ Prs H ps ts
theorem LTerms.same {H H' : Hp} {p : Addr} {ts : Tms} (s : Same H H') (h : LTerms H p ts) : LTerms H' p ts := by
  obtain ⟨ps, h, k⟩ := h
  exact ⟨ps, s _ _ h, k.same s⟩
theorem sgnM_len (f : Int) : (Fm.sgnM f).length ≤ 3 := by
  unfold Fm.sgnM
  split <;> decide
theorem sgn1_len (f : Int) : (Fm.sgn1 f).length ≤ 1 := by
  unfold Fm.sgn1
  split <;> decide
/-- the terms of a form, normal, of names -/
structure NT (ts : Tms) : Prop where
  nm : Nm ts
  rd : Rd99 ts
  na : ∀ q ∈ ts, Na q.1
  len : ts.length ≤ 3
def spSay : Sp := fun vs H Q _ => ∃ (p : Addr) (ts : Tms), vs = [.ref p] ∧ LTerms H p ts ∧ Bd 60 1000 ts ∧ SyB ts ∧ ∀ H', Same H H' → Q (.str (Fm.textS ts)) H'
def spTotal : Sp := fun vs H Q _ => ∃ (p : Addr) (qs : Tms), vs = [.ref p] ∧ LTerms H p qs ∧ qs.length ≤ 3 ∧ (∀ q ∈ qs, q.2.natAbs ≤ 99) ∧
  ∀ r H' ts, Same H H' → H r = none → LTerms H' r ts → Nm ts → (∀ q ∈ ts, q.1 ∈ qs.map (·.1) ∧ q.2.natAbs ≤ 297) → ts.length ≤ 3 → Q (.ref r) H'
def clI (n : Int) : Int := if (-99 : Int) < (if n < 99 then n else 99) then (if n < 99 then n else 99) else -99
def drawL : List Int := [1, 1, 1, -1, -1, 2, -2, 3, 9, -9, 99, -99]
theorem drawL_ok : ∀ g ∈ drawL, g.natAbs ≤ 99 := by decide
theorem Prs.off {a : Addr} {H H' : Hp} {n : Int} {ps : List Addr} {ts : Tms} (h : Prs H ps ts) (p : PurseAt H a n) (s : OffP a H H') : Prs H' ps ts := h.tups fun b z e => s _ _ (fun q => by
  obtain ⟨d, s, k, e2, _⟩ := p.ex
  rw [q, e2] at e
  cases e) e
theorem Spent.put {a F : Addr} {n c : Int} {H G : Hp} {o : HO} (x : Spent a n c H G) (hF : H F = none) (fa : F ≠ a) : Spent a n c H (upd G F o) := ⟨fun b u nb e => by
    rw [upd_ne (ne_of_none e hF)]
    exact x.off b u nb e, by
    obtain ⟨d, z2, k2, e2, r2⟩ := x.pu.ex
    exact ⟨d, z2, k2, by rw [upd_ne fa.symm]; exact e2, r2⟩⟩
theorem Spent.none {a r : Addr} {n c : Int} {H G : Hp} (x : Spent a n c H G) (h : G r = none) : H r = none := by
  cases e : H r with
  | none => rfl
  | some o =>
    by_cases q : r = a
    · obtain ⟨_, _, _, e2, _⟩ := x.pu.ex
      rw [← q, h] at e2
      cases e2
    · rw [x.off _ _ q e] at h
      cases h
theorem clI_ok {n : Int} (h : n ≠ 0) : clI n ≠ 0 ∧ (clI n).natAbs ≤ 99 := by
  unfold clI
  split <;> split <;> omega
theorem cl_asc : ∀ {ts : Tms}, Asc ts → Asc (ts.map fun q => (q.1, clI q.2))
  | [], _ => True.intro
  | q :: r, ⟨h1, h2⟩ => ⟨fun e m => by
    obtain ⟨e', m', rfl⟩ := List.mem_map.mp m
    exact h1 e' m', cl_asc h2⟩
theorem cl_nt {ts : Tms} (nm : Nm ts) (na : ∀ q ∈ ts, Na q.1) (l3 : ts.length ≤ 3) : NT (ts.map fun q => (q.1, clI q.2)) := by
  have one : ∀ q ∈ ts.map (fun q => (q.1, clI q.2)), Na q.1 ∧ q.2 ≠ 0 ∧ q.2.natAbs ≤ 99 := fun q m => by
    obtain ⟨e, m', rfl⟩ := List.mem_map.mp m
    exact ⟨na e m', clI_ok (nm.nz e m')⟩
  refine ⟨⟨cl_asc nm.asc, fun q m => (one q m).2.1⟩, fun q m => ?_, fun q m => (one q m).1, by rw [List.length_map]; exact l3⟩
  obtain ⟨h1, h2, h3⟩ := one q m
  exact ⟨⟨h1.len, h1.sy⟩, h1.sym, h2, Nat.lt_of_le_of_lt h3 (by decide +kernel)⟩
def spSmall : Sp := fun vs H Q _ => ∃ (p : Addr) (ts : Tms), vs = [.ref p] ∧ LTerms H p ts ∧ ts.length ≤ 3 ∧ ∀ r H', Same H H' → H r = none → LTerms H' r (ts.map fun q => (q.1, clI q.2)) → Q (.ref r) H'
def spFormP : Sp := fun vs H Q _ => ∃ (a p : Addr) (n : Int) (zs : List Str), vs = [.ref a, .ref p] ∧ PurseAt H a n ∧ n ≤ 60000 ∧ H p = some (.lst (zs.map V.str)) ∧ zs.length = 5 ∧ (∀ z ∈ zs, Na z) ∧
  ∀ r H' ts, Spent a n 10 H H' → H r = none → LTerms H' r ts → NT ts → Q (.ref r) H'
section
variable {P : Program} {w : World} {K : PySem.W.Frag} {mg : Str → Option Value} {base : Heap}
theorem ok_law_total {f : Addr} {fd : FuncData} (F : Fun K "_law_total" "_law_total" s__law_total f fd) (T : Ta mg) : FnG P w K mg base 1 f fd ["_law_pairs"] spTotal := by
  refine okG F sc__law_total (fun vs H Q E h => ?_) (fun cdv A outer s H vs Q hr h => ?_)
  · obtain ⟨p, qs, rfl, _⟩ := h
    rfl
  · obtain ⟨p, qs, rfl, ⟨ps, hp, pr⟩, lq, bq, k⟩ := h
    refine ⟨_, (pss_cons (ps_set (i := 1) sc__law_total.nd rfl (by first | exact .inl rfl | exact .inr rfl) pe_dnewK)
  (pss_cons (ps_for PassesOwn.never rfl (pi_list (pv 0)) (pg_tup rfl (pgs_cons (pg_name (i := 2) sc__law_total.nd rfl (by first | exact .inl rfl | exact .inr rfl)) (pgs_cons (pg_name (i := 3) sc__law_total.nd rfl (by first | exact .inl rfl | exact .inr rfl)) pgs_nil)))
    (pss_one (ps_dput (hu_of hr.rm) (pv 1) (pv 2) (pe_op op_add (pe_dget2 (hu_of hr.rm) (pv 1) (pv 2) pe_int ⟨rfl, rfl, rfl, rfl⟩) (pv 3)) rfl)))
  (pss_one (ps_ret (pe_lc (own := [("_law_symbol", 2)]) (g := gName 2) rfl sc__law_total.nd (pi_list (pe_callB (call_sortedD (by rfl)) (by rfl) T.b_sorted (by decide +kernel) (pa_cons (pv 1) pa_nil))) (blkOk_by (own := [("_law_symbol", 2)]) (N := n__law_total) (sc := defScope s__law_total) (by decide +kernel)) (fun _ _ _ _ _ => pg_name (i := 2) sc__law_total.nd rfl (Or.inl rfl)) (fun _ _ _ _ _ => (pts_one (pt_cmpR op_ne (pe_dget (hu_of hr.rm) (pv 1) (pv 2) (fun _ _ => rfl)) pe_int (nomark _)))) (fun _ _ _ _ _ => (pe_tupS (pa_cons (pv 2) (pa_cons (pe_dget (hu_of hr.rm) (pv 1) (pv 2) (fun _ _ => rfl)) pa_nil))))))))), ?_⟩
    have lps := pr.len
    refine fun d hd => ?_
    have s1 : Same H (upd H d (.dK [])) := Same.new hd
    refine ⟨_, rfl, p, rfl, ⟨_, SqL.of (s1 _ _ hp)⟩, for_list (K := K) (a := p) (xs := ps.map V.ref) (fun i σ H' => ∃ (x2 x3 : Option V) (kvs : Tms), σ = [some (.ref p), some (.ref d), x2, x3] ∧ Same H H' ∧ H' d = some (.dK (kvs.map entK)) ∧ (kvs.map (·.1)).Nodup ∧ kvs.length ≤ i ∧ (∀ s, (cf kvs s).natAbs ≤ 99 * i) ∧ ∀ q ∈ kvs, q.1 ∈ qs.map (·.1))
      ⟨_, _, [], rfl, s1, upd_same, List.nodup_nil, Nat.le_refl _, fun s => (by show (0 : Int).natAbs ≤ _; simp), nofun⟩ (fun i σ H' _ ⟨_, _, _, _, s', _⟩ => SqL.of (s' _ _ hp)) ?_ ?_⟩
    · rintro i x σ H2 hi ⟨x2, x3, kvs, rfl, s2, hd2, nd, lk, hc, hm⟩
      obtain ⟨u, q, rfl, hiq, hpq⟩ := pr.get hi
      obtain ⟨z, g⟩ := q
      obtain ⟨o, hg, eo⟩ := get0 (s := z) hd2
      have gb : g.natAbs ≤ 99 := bq _ (List.mem_of_getElem? hiq)
      have li : i < qs.length := (List.getElem?_eq_some_iff.mp hiq).1
      refine ⟨u, _, rfl, SqT.of (s2 _ _ hpq), rfl, _, _, rfl, _, _, rfl, rfl, ?_⟩
      refine ⟨_, rfl, d, rfl, .inl ⟨_, .inl hd2⟩, _, rfl, o, hg, ?_⟩
      rw [eo]
      refine ⟨_, rfl, _, _, rfl, rfl, _, rfl, _, rfl, d, _, rfl, DPut.k (k := Sum.inr z) hd2 ?_, _, _, putE kvs z (cf kvs z + g), rfl, fun b o e => ?_, ?_, put_nodup nd _ _, ?_, fun t => ?_, fun q hqm => ?_⟩
      · rw [List.length_map]
        exact Nat.lt_of_le_of_lt (show kvs.length ≤ 1000 by omega) (by decide)
      · rw [upd_ne (ne_of_none e hd)]
        exact s2 _ _ e
      · rw [upd_same, put_ent]
      · have := put_len kvs z (cf kvs z + g)
        omega
      · rw [cf_put]
        split
        · have := hc z
          omega
        · have := hc t
          omega
      · have : q.1 ∈ (putE kvs z (cf kvs z + g)).map (·.1) := List.mem_map_of_mem hqm
        rw [put_keys] at this
        have all : ∀ y ∈ kvs.map (·.1), y ∈ qs.map (·.1) := fun y hy => by
          obtain ⟨q', hq', e⟩ := List.mem_map.mp hy
          rw [← e]
          exact hm q' hq'
        split at this
        · exact all _ this
        · rcases List.mem_append.mp this with h | h
          · exact all _ h
          · rw [List.mem_singleton.mp h]
            exact List.mem_map_of_mem (f := fun q : Str × Int => q.1) (List.mem_of_getElem? hiq)
    · rintro σ G ⟨x2, x3, kvs, rfl, s2, hd2, nd, lk, hc, hm⟩
      have lk3 : kvs.length ≤ 3 := by
        rw [List.length_map, lps] at lk
        omega
      refine ⟨_, rfl, d, kvs.map entK, kvs.map (·.1), rfl, .inl hd2, by rw [List.map_map, List.map_map] <;> rfl, by rw [List.length_map]; omega, fun ys u hpm hs hnp => ?_⟩
      have t1 : Same G (upd G u (.lst (ys.map V.str))) := Same.new hnp
      generalize h1 : upd G u (.lst (ys.map V.str)) = H1 at t1 ⊢
      have hp1 : H1 u = some (.lst (ys.map V.str)) := by rw [← h1]; exact upd_same
      have hd1 := t1 _ _ hd2
      have ly : ys.length < 64 := by rw [hpm.length_eq, List.length_map]; omega
      refine ⟨u, rfl, ⟨_, SqL.of hp1⟩, fun D hD => lc_it walk_list (fun j H' => Same H1 H' ∧ ∃ ps, H' D = some (.lst (ps.map V.ref)) ∧ Prs H' ps (tmOf kvs (ys.take j))) ⟨Same.new hD, [], upd_same, .nil⟩ (fun j H' _ ⟨s', _⟩ => SqL.of (s' _ _ hp1)) (fun j x H2 H3 hj inv y => ?_) fun H2 inv => ?_⟩
      · obtain ⟨s2, ps, hD2, hps⟩ := inv
        obtain ⟨rfl, hx⟩ := y
        rw [List.getElem?_map] at hx
        obtain ⟨e, he, rfl⟩ := Option.map_eq_some_iff.mp hx
        have tk : ys.take (j + 1) = ys.take j ++ [e] := by
          rw [List.take_add_one, he]
          rfl
        have hd3 := s2 _ _ hd1
        have mem : e ∈ kvs.map (·.1) := hpm.mem_iff.mp (List.mem_of_getElem? he)
        have vg := val_cf mem
        have lps : ps.length ≤ j := by
          rw [hps.len]
          exact Nat.le_trans (List.length_filter_le _ _) (by rw [List.length_map]; exact List.length_take_le _ _)
        have jl : j < 64 := by
          rw [List.length_map] at hj
          omega
        refine ⟨rfl, _, rfl, _, rfl, d, .int (cf kvs e), rfl, ?_, rfl, _, rfl, ?_⟩
        · rw [← vg]
          exact DGet.k (k := Sum.inr e) hd3
        · refine ite2 (fun hb => ?_) fun hb => ⟨s2, ps, hD2, ?_⟩
          · have nz : cf kvs e ≠ 0 := by simpa using hb
            refine ⟨_, rfl, _, rfl, _, rfl, d, .int (cf kvs e), rfl, ?_, (by show 2 ≤ sizeLine; decide), fun p H4 n4 s4 h4 => ⟨_, s4 _ _ hD2, ?_, fun b o q => ?_, ps ++ [p], ?_, ?_⟩⟩
            · rw [← vg]
              exact DGet.k (k := Sum.inr e) hd3
            · rw [List.length_map]
              exact Nat.lt_of_le_of_lt (show ps.length ≤ 1000 by omega) (by decide)
            · rw [upd_ne (ne_of_none q hD)]
              exact s4 _ _ (s2 _ _ q)
            · rw [upd_same, List.map_append]
              rfl
            · have nD : ∀ b z, H4 b = some (.tup z) → upd H4 D (.lst (ps.map V.ref ++ [V.ref p])) b = some (.tup z) := fun b z q => by
                rw [upd_ne (fun e => by rw [e, s4 _ _ hD2] at q; cases q)]
                exact q
              have up2 : ∀ {qs : List Addr} {ts : Tms}, Prs H3 qs ts → Prs (upd H4 D (.lst (ps.map V.ref ++ [V.ref p]))) qs ts := by
                intro qs ts r
                induction r with
                | nil => exact .nil
                | cons h r ih => exact .cons (nD _ _ (s4 _ _ h)) ih
              have e2 : tmOf kvs (ys.take (j + 1)) = tmOf kvs (ys.take j) ++ [(e, cf kvs e)] := by
                unfold tmOf
                rw [tk, List.map_append, List.filter_append, List.map_cons, List.map_nil, List.filter_cons_of_pos (by simpa using nz)]
                rfl
              rw [e2]
              exact (up2 hps).snoc (nD _ _ h4)
          · have z : cf kvs e = 0 := by simpa using hb
            have e2 : tmOf kvs (ys.take (j + 1)) = tmOf kvs (ys.take j) := by
              unfold tmOf
              rw [tk, List.map_append, List.filter_append, List.map_cons, List.map_nil, List.filter_cons_of_neg (by simpa using z), List.filter_nil, List.append_nil]
            rw [e2]
            exact hps
      · obtain ⟨s3, ps2, hD2, hps⟩ := inv
        rw [List.length_map, List.take_length] at hps
        obtain ⟨nm, hcc, hq⟩ := tm_nm hpm hs nd
        have lt : (tmOf kvs ys).length ≤ 3 := by
          refine Nat.le_trans (List.length_filter_le _ _) ?_
          rw [List.length_map, hpm.length_eq, List.length_map]
          exact lk3
        refine k D H2 _ ((s2.trans t1).trans s3) ?_ ⟨ps2, hD2, hps⟩ nm (fun q m => ⟨hm _ (hq q m), ?_⟩) lt
        · exact (s2.trans t1).free hD
        · obtain ⟨z, g⟩ := q
          have e := cf_nodup nd (hq _ m)
          have := hc z
          rw [e] at this
          rw [List.length_map, lps] at this
          show g.natAbs ≤ 297
          omega
theorem ok_law_small {f : Addr} {fd : FuncData} (F : Fun K "_law_small" "_law_small" s__law_small f fd) (T : Ta mg) : FnG P w K mg base 1 f fd ["_law_terms"] spSmall := by
  refine okG F sc__law_small (fun vs H Q E h => ?_) (fun cdv A outer s H vs Q hr h => ?_)
  · obtain ⟨p, ts, rfl, _⟩ := h
    rfl
  · obtain ⟨p, ts, rfl, ⟨ps, hp, pr⟩, lt, k⟩ := h
    refine ⟨_, (pss_one (ps_ret (pe_lc (own := [("_law_symbol", 1), ("_law_number", 2)]) (g := gTup K 2 (gCons (gName 1) (gCons (gName 2) gNil))) (tt := tYes) rfl sc__law_small.nd (pi_list (pv 0)) (blkOk_by (own := [("_law_symbol", 1), ("_law_number", 2)]) (N := n__law_small) (sc := defScope s__law_small) (by decide +kernel)) (fun _ _ _ _ _ => pg_tup rfl (pgs_cons (pg_name (i := 1) sc__law_small.nd rfl (Or.inl rfl) (Or.inr rfl)) (pgs_cons (pg_name (i := 2) sc__law_small.nd rfl (Or.inl rfl) (Or.inr rfl)) pgs_nil))) (fun _ _ _ _ _ => pts_nil) (fun _ _ _ _ _ => (pe_tupS (pa_cons (pv 1) (pa_cons (pe_callB (call_max2 rfl) (by rfl) T.b_max (by decide +kernel) (pa_cons (pe_un un_neg pe_int) (pa_cons (pe_callB (call_min2 rfl) (by rfl) T.b_min (by decide +kernel) (pa_cons pe_int (pa_cons (pv 2) pa_nil))) pa_nil))) pa_nil))))))), ?_⟩
    have lps := pr.len
    refine ⟨_, rfl, p, rfl, ⟨_, SqL.of hp⟩, fun D hD => lc_it walk_list (fun j H' => Same H H' ∧ ∃ us, H' D = some (.lst (us.map V.ref)) ∧ Prs H' us ((ts.take j).map fun q => (q.1, clI q.2))) ⟨Same.new hD, [], upd_same, .nil⟩ (fun j H' _ ⟨s', _⟩ => SqL.of (s' _ _ hp)) (fun j x H2 H3 hj inv y => ?_) fun H2 inv => ?_⟩
    · obtain ⟨s2, us, hD2, hus⟩ := inv
      obtain ⟨rfl, hx⟩ := y
      obtain ⟨u, q, rfl, hq, hpq⟩ := pr.get hx
      have tk : ts.take (j + 1) = ts.take j ++ [q] := by
        rw [List.take_add_one, hq]
        rfl
      have lus : us.length ≤ 3 := by
        rw [hus.len, List.length_map]
        exact Nat.le_trans (List.length_take_le' _ _) lt
      refine ⟨u, _, rfl, SqT.of (s2 _ _ hpq), rfl, _, _, rfl, _, _, rfl, rfl, rfl, _, rfl, 99, rfl, _, rfl, 99, q.2, rfl, -99, _, rfl, (by show 2 ≤ sizeLine; decide), fun u4 H4 n4 s4 h4 => ⟨_, s4 _ _ hD2, ?_, fun b o q => ?_, us ++ [u4], ?_, ?_⟩⟩
      · rw [List.length_map]
        exact Nat.lt_of_le_of_lt (show us.length ≤ 1000 by omega) (by decide)
      · rw [upd_ne (ne_of_none q hD)]
        exact s4 _ _ (s2 _ _ q)
      · rw [upd_same, List.map_append]
        rfl
      · have nD : ∀ b z, H4 b = some (.tup z) → upd H4 D (.lst (us.map V.ref ++ [V.ref u4])) b = some (.tup z) := fun b z q => by
          rw [upd_ne (fun e => by rw [e, s4 _ _ hD2] at q; cases q)]
          exact q
        rw [tk, List.map_append]
        exact ((hus.same s4).tups nD).snoc (nD _ _ h4)
    · obtain ⟨s2, us, hD2, hus⟩ := inv
      rw [List.length_map, lps, List.take_length] at hus
      exact k D H2 s2 hD ⟨us, hD2, hus⟩
theorem ok_law_form {f : Addr} {fd : FuncData} (F : Fun K "_law_form" "_law_form" s__law_form f fd) (T : Ta mg) (c__law_take : Cal P w K mg base 1 "_law_take" ["_law_purse_here", "_law_many"] spTake) (c__law_total : Cal P w K mg base 1 "_law_total" ["_law_pairs"] spTotal) (c__law_small : Cal P w K mg base 1 "_law_small" ["_law_terms"] spSmall) : FnG P w K mg base 2 f fd ["_law_purse_here", "_law_symbols"] spFormP := by
  refine okG F sc__law_form (fun vs H Q E h => ?_) (fun cdv A outer s H vs Q hr h => ?_)
  · obtain ⟨a, p, n, zs, rfl, _⟩ := h
    rfl
  · obtain ⟨a, p, n, zs, rfl, hp, hn, hz, lz, oz, k⟩ := h
    refine ⟨_, (pss_cons (ps_set (i := 2) sc__law_form.nd rfl (by first | exact .inl rfl | exact .inr rfl) (pe_lstS pa_nil))
  (pss_cons (ps_for PassesOwn.never rfl (pi_range1 rfl T.b_range (pa_cons (pe_mid (pe_ifExp (pt_cmpR (op_neD hr.units) (pv 1) (pe_lstS pa_nil) (nomark _)) (pe_c c__law_take hr (by decide) rfl (pa_cons (pv 0) (pa_cons pe_int pa_nil))) pe_int)) pa_nil)) (pg_name (i := 3) sc__law_form.nd rfl (by first | exact .inl rfl | exact .inr rfl))
    (pss_cons (ps_set (i := 4) sc__law_form.nd rfl (by first | exact .inl rfl | exact .inr rfl) (pe_ix ix_list (pe_lstS (pa_cons pe_int (pa_cons pe_int (pa_cons pe_int (pa_cons (pe_un un_neg pe_int) (pa_cons (pe_un un_neg pe_int) (pa_cons pe_int (pa_cons (pe_un un_neg pe_int) (pa_cons pe_int (pa_cons pe_int (pa_cons (pe_un un_neg pe_int) (pa_cons pe_int (pa_cons (pe_un un_neg pe_int) pa_nil))))))))))))) (pe_c c__law_take hr (by decide) rfl (pa_cons (pv 0) (pa_cons pe_int pa_nil))) (fun _ _ => rfl)))
  (pss_one (ps_expr (pe_bm PySem.F.plainAttrs_list PySem.F.slot_list_append PySem.F.type_list_append mt_append (pv 2) (pa_cons (pe_tupS (pa_cons (pe_ix ix_list (pv 1) (pe_c c__law_take hr (by decide) rfl (pa_cons (pv 0) (pa_cons (pe_callB call_len_seq (by rfl) T.b_len (by decide +kernel) (pa_cons (pv 1) pa_nil)) pa_nil))) (fun _ _ => rfl)) (pa_cons (pv 4) pa_nil))) pa_nil))))))
  (pss_one (ps_ret (pe_c c__law_small hr (by decide) rfl (pa_cons (pe_c c__law_total hr (by decide) rfl (pa_cons (pv 2) pa_nil)) pa_nil)))))), ?_⟩
    refine ⟨Nat.zero_le _, fun F0 H1 n1 s1 h1 => ?_⟩
    have p1 : Spent a n 0 H H1 := hp.spent.same s1
    have fa : F0 ≠ a := p1.pu.ne (zs := []) h1
    have pa : p ≠ a := hp.ne hz
    refine ⟨fun v H' => ∃ m : Int, v = .int m ∧ 0 ≤ m ∧ m ≤ 3 ∧ Spent a n 1 H H' ∧ H' F0 = some (.lst []), ?_, ?_⟩
    · refine ⟨_, rfl, Nat.zero_le _, fun p4 H4 n4 s4 h4 => ⟨.list (zs.map .str), .list [], .lst (SqL.of (s4 _ _ (s1 _ _ hz))) (dp_strs zs), .lst (SqL.of h4) .nil, shaped_strs zs fun z hz => (oz z hz).oks.strOk, rfl, _, rfl, ite2 (fun _ => ?_) fun _ => ?_⟩⟩
      · refine ⟨_, rfl, a, 4, n + 0, rfl, (p1.same s4).pu, by omega, by decide, by decide, fun m H5 m0 m4 p5 => ⟨m, rfl, m0, by omega, (p1.same s4).trans p5 (by omega), p5.off _ _ fa (s4 _ _ h1)⟩⟩
      · exact ⟨0, rfl, by decide, by decide, (p1.same s4).le (by omega), s4 _ _ h1⟩
    · rintro v H2 ⟨m, rfl, m0, m3, p2, hF2⟩
      refine ⟨m, rfl, by omega, by omega, for_it (walk_range (lo := 0) (n := m.toNat)) (fun i σ H' => ∃ (x3 x4 : Option V) (ps : List Addr) (qs : Tms), σ = [some (.ref a), some (.ref p), some (.ref F0), x3, x4] ∧ H' F0 = some (.lst (ps.map V.ref)) ∧ Prs H' ps qs ∧ qs.length = i ∧ (∀ q ∈ qs, q.1 ∈ zs ∧ q.2.natAbs ≤ 99) ∧ Spent a n (1 + 2 * (i : Int)) H H')
        ⟨_, _, [], [], rfl, hF2, .nil, rfl, nofun, p2.le (by omega)⟩ (fun _ _ _ _ _ => True.intro) ?_ ?_⟩
      · rintro i x σ G G' hi ⟨x3, x4, ps, qs, rfl, hF, pr, lq, bq, pG⟩ ⟨rfl, rfl⟩
        refine ⟨_, rfl, _, rfl, _, rfl, _, rfl, _, rfl, (by show 12 ≤ sizeLine; decide), fun pl G1 nl sl hl => ?_⟩
        refine ⟨_, rfl, a, 12, _, rfl, (pG.same sl).pu, by omega, by decide, by decide, fun r G2 r0 r1 p3 => ?_⟩
        have pla : pl ≠ a := fun e => by
          obtain ⟨d, s, k, e2, _⟩ := pG.pu.ex
          rw [← e, nl] at e2
          cases e2
        have hl2 : G2 pl = some (.lst (drawL.map V.int)) := p3.off _ _ pla hl
        obtain ⟨v, e1, e2⟩ := at_int (xs := drawL.map V.int) r0 r1
        obtain ⟨g, mg', rfl⟩ := List.mem_map.mp e2
        have gb : g.natAbs ≤ 99 := drawL_ok g mg'
        have p4 : Spent a n (1 + 2 * (i : Int) + 1) H G2 := (pG.same sl).trans p3 (by omega)
        have hF3 := p3.off _ _ fa (sl _ _ hF)
        refine ⟨pl, _, r, _, rfl, rfl, SqL.of hl2, e1, ?_⟩
        have l5 : ((zs.map V.str).length : Int) = 5 := by
          rw [List.length_map, lz]
          rfl
        have hz4 := p4.off _ _ pa hz
        refine ⟨_, rfl, .inl ⟨rfl, _, SqL.of hF3⟩, _, rfl, _, rfl, _, rfl, p, _, rfl, .inl (SqL.of hz4), a, _, _, rfl, p4.pu, by omega, by omega, by omega, fun r2 G3 r20 r21 p5 => ?_⟩
        obtain ⟨v2, f1, f2⟩ := at_int (xs := zs.map V.str) r20 r21
        obtain ⟨z, mz, rfl⟩ := List.mem_map.mp f2
        have p6 : Spent a n (1 + 2 * (i : Int) + 2) H G3 := p4.trans p5 (by omega)
        refine ⟨p, _, r2, _, rfl, rfl, SqL.of (p6.off _ _ pa hz), f1, _, rfl, (by show 2 ≤ sizeLine; decide), fun u G4 nu su hu => ?_⟩
        have hF4 := su _ _ (p5.off _ _ fa hF3)
        have pr4 : Prs G4 ps qs := (((pr.same sl).off (pG.same sl).pu p3.off).off p4.pu p5.off).same su
        have nD : ∀ b t, G4 b = some (.tup t) → upd G4 F0 (.lst (ps.map V.ref ++ [V.ref u])) b = some (.tup t) := fun b t q => by
          rw [upd_ne (fun e => by rw [e, hF4] at q; cases q)]
          exact q
        have lp := pr.len
        refine ⟨F0, _, _, rfl, rfl, hF4, ?_, _, _, ps ++ [u], qs ++ [(z, g)], rfl, ?_, ?_, ?_, ?_, ?_⟩
        · rw [List.length_map]
          exact Nat.lt_of_le_of_lt (show ps.length ≤ 3 by omega) (by decide)
        · rw [upd_same, List.map_append]
          rfl
        · exact (pr4.tups nD).snoc (nD _ _ hu)
        · rw [List.length_append, lq]
          rfl
        · intro q m
          rcases List.mem_append.mp m with m | m
          · exact bq q m
          · rw [List.mem_singleton.mp m]
            exact ⟨mz, gb⟩
        · exact ((p6.same su).put n1 fa).le (by omega)
      · rintro σ G ⟨x3, x4, ps, qs, rfl, hF, pr, lq, bq, pG⟩
        refine ⟨_, rfl, F0, qs, rfl, ⟨ps, hF, pr⟩, by omega, fun q m => (bq q m).2, fun r G1 ts t1 nr lt nm bt l3 => ⟨r, ts, rfl, lt, l3, fun r2 G2 t2 nr2 lt2 => ?_⟩⟩
        have pE : Spent a n 10 H G2 := ((pG.same t1).same t2).le (by omega)
        refine k r2 G2 _ pE ((pG.same t1).none nr2) lt2 (cl_nt nm (fun q m => ?_) l3)
        obtain ⟨q', m', e⟩ := List.mem_map.mp (bt q m).1
        rw [← e]
        exact oz _ (bq q' m').1
theorem ok_law_say {f : Addr} {fd : FuncData} (F : Fun K "_law_say" "_law_say" s__law_say f fd) (T : Ta mg) : FnG P w K mg base 1 f fd ["_law_terms"] spSay := by
  refine okG F sc__law_say (fun vs H Q E h => ?_) (fun cdv A outer s H vs Q hr h => ?_)
  · obtain ⟨p, ts, rfl, _⟩ := h
    rfl
  · obtain ⟨p, ts, rfl, ⟨ps, hp, pr⟩, ⟨bl, bb⟩, sy, k⟩ := h
    refine ⟨_, (pss_cons (ps_set (i := 1) sc__law_say.nd rfl (by first | exact .inl rfl | exact .inr rfl) pe_str)
  (pss_cons (ps_for PassesOwn.never rfl (pi_list (pv 0)) (pg_tup rfl (pgs_cons (pg_name (i := 2) sc__law_say.nd rfl (by first | exact .inl rfl | exact .inr rfl)) (pgs_cons (pg_name (i := 3) sc__law_say.nd rfl (by first | exact .inl rfl | exact .inr rfl)) pgs_nil)))
    (pss_cons (ps_set (i := 4) sc__law_say.nd rfl (by first | exact .inl rfl | exact .inr rfl) (pe_mid (pe_ifExp (pt_cmpR op_eq (pe_callB call_abs (by rfl) T.b_abs (by decide +kernel) (pa_cons (pv 3) pa_nil)) pe_int (nomark _)) (pv 2) (pe_op op_add_str (pe_op op_add_str (pe_callTy call_str_int (by rfl) T.b_str (by decide +kernel) (pa_cons (pe_callB call_abs (by rfl) T.b_abs (by decide +kernel) (pa_cons (pv 3) pa_nil)) pa_nil)) pe_str) (pv 2)))))
  (pss_one (ps_mid (ps_if (pt_cmpR op_eq (pv 1) pe_str (nomark _))
    (pss_one (ps_set (i := 1) sc__law_say.nd rfl (by first | exact .inl rfl | exact .inr rfl) (pe_mid (pe_ifExp (pt_cmpR op_lt (pv 3) pe_int (nomark _)) (pe_op op_add_str pe_str (pv 4)) (pv 4)))))
    (pss_one (ps_set (i := 1) sc__law_say.nd rfl (by first | exact .inl rfl | exact .inr rfl) (pe_op op_add_str (pe_op op_add_str (pv 1) (pe_mid (pe_ifExp (pt_cmpR op_lt (pv 3) pe_int (nomark _)) pe_str pe_str))) (pv 4)))))))))
  (pss_one (ps_ret (pe_mid (pe_ifExp (pt_cmpR op_ne (pv 1) pe_str (nomark _)) (pv 1) pe_str)))))), ?_⟩
    have lps := pr.len
    have big : ∀ {n : Nat}, n ≤ 200000 → n ≤ sizeLine := fun h => Nat.le_trans h (by decide)
    refine ⟨_, rfl, p, rfl, ⟨_, SqL.of hp⟩, for_it walk_list (fun i σ H' => ∃ (l : Str) (x2 x3 x4 : Option V), σ = [some (.ref p), some (.str l), x2, x3, x4] ∧ Same H H' ∧ Fm.lineS l (ts.drop i) = Fm.lineS "" ts ∧ l.length ≤ 1940 * i)
      ⟨_, _, _, _, rfl, Same.refl H, rfl, by decide⟩ (fun i σ H' _ ⟨_, _, _, _, _, s', _⟩ => SqL.of (s' _ _ hp)) ?_ ?_⟩
    · rintro i x σ H2 H2' hi ⟨l, x2, x3, x4, rfl, s2, hl, ll⟩ ⟨rfl, hx⟩
      obtain ⟨q, e, rfl, hiq, hpq⟩ := pr.get hx
      obtain ⟨z, g⟩ := e
      have li : i < ts.length := (List.getElem?_eq_some_iff.mp hiq).1
      have gb : g.natAbs < 2 ^ 1000 := bb _ (List.mem_of_getElem? hiq)
      have sl : z.length ≤ 8 := (sy _ (List.mem_of_getElem? hiq)).1
      have wl := word_len sl gb
      have dr : ts.drop i = (z, g) :: ts.drop (i + 1) := by
        rw [List.drop_eq_getElem_cons li, (List.getElem?_eq_some_iff.mp hiq).2]
      rw [dr] at hl
      refine ⟨q, _, rfl, SqT.of (s2 _ _ hpq), rfl, _, _, rfl, _, _, rfl, rfl, ?_⟩
      refine ⟨fun v H' => v = .str (Fm.wordS z g) ∧ H' = H2', ⟨_, rfl, g, rfl, rfl, _, rfl, ite2 (fun h1 => ?_) fun h1 => ?_⟩, ?_⟩
      · have e : Fm.absI g = 1 := by simpa [Fm.absI] using h1
        exact ⟨_, rfl, by rw [show Fm.wordS z g = z from if_pos e], rfl⟩
      · have e : ¬ Fm.absI g = 1 := by simpa [Fm.absI] using h1
        have ln := num_len gb
        refine ⟨_, rfl, g, rfl, _, rfl, log_of gb, _, _, rfl, rfl, ?_, _, rfl, _, _, rfl, rfl, ?_, ?_⟩
        · show (Fm.numS g).length + 1 ≤ sizeLine
          exact big (by omega)
        · show (Fm.numS g ++ ("*" : Str)).length + _ ≤ sizeLine
          rw [lenapp]
          refine big ?_
          show (Fm.numS g).length + 1 + z.length ≤ 200000
          omega
        · exact ⟨congrArg V.str ((if_neg e).symm : Fm.numS g ++ ("*" : Str) ++ z = Fm.wordS z g), rfl⟩
      · rintro v H' ⟨rfl, rfl⟩
        have s3 := sgnM_len g
        have s1 := sgn1_len g
        have l60 : 1940 * i ≤ 116400 := by omega
        refine ⟨fun σ' H3 => σ' = [some (.ref p), some (.str (if l = "" then Fm.sgn1 g ++ Fm.wordS z g else l ++ Fm.sgnM g ++ Fm.wordS z g)), some (.str z), some (.int g), some (.str (Fm.wordS z g))] ∧ H3 = H', ⟨_, rfl, rfl, _, rfl, ite2 (fun he => ?_) fun he => ?_⟩, ?_⟩
        · have e : l = "" := V.str.inj (of_decide_eq_true he)
          rw [if_pos e]
          refine ⟨fun v H3 => v = .str (Fm.sgn1 g ++ Fm.wordS z g) ∧ H3 = H', ⟨_, rfl, _, _, rfl, rfl, _, rfl, ite2 (fun hg => ?_) fun hg => ?_⟩, ?_⟩
          · rw [show Fm.sgn1 g = "-" from if_pos (of_decide_eq_true hg)]
            exact ⟨_, rfl, _, _, rfl, rfl, big (by show 1 + (Fm.wordS z g).length ≤ _; omega), rfl, rfl⟩
          · rw [show Fm.sgn1 g = "" from if_neg (fun q => hg (decide_eq_true q))]
            exact ⟨_, rfl, by rw [show ("" : Str) ++ Fm.wordS z g = Fm.wordS z g from empty_app _], rfl⟩
          · rintro v H3 ⟨rfl, rfl⟩
            exact ⟨rfl, rfl⟩
        · have e : ¬ l = "" := fun q => he (decide_eq_true (congrArg V.str q))
          rw [if_neg e]
          refine ⟨_, rfl, fun v H3 => v = .str (Fm.sgnM g) ∧ H3 = H', ⟨_, rfl, _, _, rfl, rfl, _, rfl, ite2 (fun hg => ?_) fun hg => ?_⟩, ?_⟩
          · rw [show Fm.sgnM g = " - " from if_pos (of_decide_eq_true hg)]
            exact ⟨rfl, rfl⟩
          · rw [show Fm.sgnM g = " + " from if_neg (fun q => hg (decide_eq_true q))]
            exact ⟨rfl, rfl⟩
          · rintro v H3 ⟨rfl, rfl⟩
            refine ⟨_, _, rfl, rfl, big (by omega), _, rfl, _, _, rfl, rfl, ?_, rfl, rfl⟩
            rw [lenapp]
            exact big (by omega)
        · rintro σ' H3 ⟨rfl, rfl⟩
          refine ⟨_, _, _, _, rfl, s2, hl, ?_⟩
          split
          · rw [lenapp]
            omega
          · rw [lenapp, lenapp]
            omega
    · rintro σ H2 ⟨l, x2, x3, x4, rfl, s2, hl, ll⟩
      rw [List.length_map, lps, List.drop_length] at hl
      have hl : l = Fm.lineS "" ts := hl
      refine ⟨fun v H3 => v = .str (Fm.textS ts) ∧ H3 = H2, ⟨_, rfl, rfl, _, rfl, ite2 (fun he => ?_) fun he => ?_⟩, ?_⟩
      · have e : ¬ l = "" := fun q => by
          rw [q] at he
          exact absurd he (by decide)
        refine ⟨_, rfl, ?_, rfl⟩
        rw [show Fm.textS ts = Fm.lineS "" ts from if_neg (hl ▸ e), hl]
      · have e : l = "" := Decidable.of_not_not fun q => he (by
          rw [decide_eq_false fun c => q (V.str.inj c)]
          rfl)
        refine ⟨?_, rfl⟩
        rw [show Fm.textS ts = "0" from if_pos (hl ▸ e)]
      · rintro v H3 ⟨rfl, rfl⟩
        exact k _ s2
end
end Lw

/-! ## StL -/
set_option maxHeartbeats 4000000
/-! repr of a list of texts, ints and instances with an own __repr__ -/
namespace Lw
open PySem PySem.Spec PyProof.Rows L2 L2H
def ItR (C : Addr) (sp : Sp) (H : Hp) (y : V) (z : Str) : Prop := (∃ x : Str, y = .str x ∧ z = reprText x ∧ z.length ≤ sizeLine) ∨ (∃ i : Int, y = .int i ∧ z = Str.ofString (toString i) ∧ i.natAbs.log2 < 1920) ∨
  ∃ x, y = .ref x ∧ Is C H x ∧ z.length ≤ sizeLine ∧ ∀ H', Same H H' → sp [.ref x] H' (fun v H'' => v = .str z ∧ Same H' H'') E0
def rReprL (C : Addr) (sp : Sp) : List V → Hp → VK → Prop := fun xs H Q => ∃ (a : Addr) (ys : List V) (zs : List Str), xs = [.ref a] ∧ H a = some (.lst ys) ∧ ys ≠ [] ∧ ys.length ≤ 100 ∧ zs.length = ys.length ∧ (∀ (i : Nat) (y : V) (z : Str), ys[i]? = some y → zs[i]? = some z → ItR C sp H y z) ∧ (listText zs).length ≤ sizeLine ∧
  ∀ H', Same H H' → Q (.str (listText zs)) H'
/-- the state within the loop -/
structure InLoop (X : Cx) (s : Shared) (H : Hp) (P : Addr) (s1 : Shared) (H1 : Hp) : Prop where
  sm : Same H H1
  os : s1.os = s.os
  bare : AllBare s1.gens
  un : Un (frs X.stack) [] H H1 s.heap s1.heap
  hok : HOk X.prog X.w H1 s1.heap
  nP : H1 P = none
theorem loopL {X : Cx} {k : Nat} {C f : Addr} {fd : FuncData} {ps : List Str} {sp : Sp} (F : FnOk X.prog X.w X.K X.mg X.base CX0 k f fd ps sp) (hm : Meth X.K C "__repr__" f) (hb : ∀ us : List Value, us.length = ps.length → bindArgs fd ⟨us, []⟩ = pure (ps.zip us)) (hr1 : Room (k + 3) X.A.in1)
    {pins : List (Addr × Obj)} {σ : L2.St} {H : Hp} {s : Shared} (I : Inv X pins σ H s) {a P : Addr} {ys : List V} (ha : H a = some (.lst ys)) (hP : s.heap.objs.size ≤ P) (fP : P ∉ frs X.stack) {zs : List Str} (hz : zs.length = ys.length) (l100 : ys.length ≤ 100)
    (hI : ∀ (i : Nat) (y : V) (z : Str), ys[i]? = some y → zs[i]? = some z → ItR C sp H y z) (hS : (listText zs).length ≤ sizeLine) {R : Result → Shared → Prop}
    (hR : ∀ u s1 H1, InLoop X s H P s1 H1 → R (.ok (.ret (.str (listText zs) u))) { s1 with toks := s1.toks + 1 }) (hR0 : True) :
    ∀ (rem i : Nat) (s1 : Shared) (H1 : Hp) (acc : Array Value) (done : List (Str × Tok)) (cc : Nat), i + rem = ys.length → InLoop X s H P s1 H1 → s1.heap.get? P = some ({ cls := .type "list", data := .seq acc cc } : Obj) → acc.toList = strValues done → done.map (·.1) = zs.take i →
      codeAny (model X.prog X.w) X.A.in1 (lpC a P (i : Int) ((piled (zs.take i) : Nat) : Int)) R s1 := by
  intro rem
  have hpl := piled_le_listText zs
  induction rem with
  | zero =>
    intro i s1 H1 acc done cc hi L gP hacc hdone
    obtain ⟨_, its, n, rv, ho⟩ := (show ObjOk X.prog X.w H1 s1.heap a (.lst ys) from L.hok a _ (L.sm _ _ ha))
    have li : its.length = ys.length := rv.length.symm
    have hin : i = ys.length := by omega
    refine codeAny_builtin PySem.F.entry_list_repr_loop ?_
    show wpAny _ _ (Builtin.«list.__repr__.loop» ⟨[.ref a, .int (i : Int) 0, .ref P, .int _ 0], []⟩) _ _ _
    rw [PySem.repr_loop_tree]
    refine wpAny_bind (wpAny_listItems ho rfl ?_)
    have hnone : its.toArray[((i : Int)).toNat]? = none := by simp [hin, li]
    simp only [hnone]
    show wpAny _ _ (PySem.reprEnd (.ref P)) _ _ _
    unfold PySem.reprEnd
    refine wpAny_bind (wpAny_listItems gP rfl ?_)
    rw [hacc, PySem.repr_fold]
    refine wpAny_bind (wpAny_pure ?_)
    have hall : done.map (·.1) = zs := by rw [hdone, hin, ← hz, List.take_length]
    rw [hall]
    refine wpAny_bind (wpAny_mkStr (wpAny_pure ?_) hS)
    exact hR _ s1 H1 L
  | succ rem ih =>
    intro i s1 H1 acc done cc hi L gP hacc hdone
    obtain ⟨_, its, n, rv, ho⟩ := (show ObjOk X.prog X.w H1 s1.heap a (.lst ys) from L.hok a _ (L.sm _ _ ha))
    have li : its.length = ys.length := rv.length.symm
    have hlt : i < ys.length := by omega
    obtain ⟨y, hy⟩ : ∃ y, ys[i]? = some y := ⟨_, List.getElem?_eq_getElem hlt⟩
    obtain ⟨z, hzi⟩ : ∃ z, zs[i]? = some z := ⟨_, List.getElem?_eq_getElem (by omega)⟩
    obtain ⟨u, hu, ru⟩ : ∃ u, its[i]? = some u ∧ RelV y u := by
      rcases vals_at rv i with ⟨v, u, e1, e2, r⟩ | ⟨e1, _⟩
      · rw [hy] at e1
        cases e1
        exact ⟨u, e2, r⟩
      · rw [hy] at e1
        cases e1
    have hp1 := piled_take_succ hzi
    have hp2 := piled_take_le zs (i + 1)
    refine codeAny_builtin PySem.F.entry_list_repr_loop ?_
    show wpAny _ (X.A.in1.under (lpC a P (i : Int) ((piled (zs.take i) : Nat) : Int))) (Builtin.«list.__repr__.loop» ⟨[.ref a, .int (i : Int) 0, .ref P, .int ((piled (zs.take i) : Nat) : Int) 0], []⟩) _ _ _
    rw [PySem.repr_loop_tree]
    refine wpAny_bind (wpAny_listItems ho rfl ?_)
    have hsome : its.toArray[((i : Int)).toNat]? = some u := by simp [hu]
    simp only [hsome]
    rw [Int.toNat_natCast]
    have no : ∀ b : Addr, b ∉ ([] : List Addr) := fun b z => nomatch z
    refine wpAny_bind (wpAny_holding (wpAny_mono (Q := fun t s2 => t = z ∧ ∃ H2, InLoop X s H P s2 H2 ∧ s2.heap.get? P = some ({ cls := .type "list", data := .seq acc cc } : Obj)) ?_ (fun t s2 ⟨e, H2, L2, gP2⟩ => ?_) fun _ _ y => y))
    · rcases hI i y z hy hzi with ⟨x, rfl, rfl, hl⟩ | ⟨j, rfl, rfl, hl⟩ | ⟨x, rfl, hx, hl, hs⟩
      · obtain ⟨t, rfl⟩ := ru
        exact ReprIs.str x t hl _ (by omega) _ _ _ _ fun tk => ⟨rfl, H1, ⟨L.sm, L.os, L.bare, L.un, L.hok, L.nP⟩, gP⟩
      · obtain ⟨t, rfl⟩ := ru
        exact ReprIs.int t hl _ (by omega) _ _ _ _ fun tk => ⟨rfl, H1, ⟨L.sm, L.os, L.bare, L.un, L.hok, L.nP⟩, gP⟩
      · cases ru
        obtain ⟨_, H1', I1, _, _, rfl⟩ := I.after (Q := fun v H' => v = V.non ∧ H' = H1) (u := Value.none) ⟨.non, H1, L.os, L.bare, L.un, L.hok, rfl, rfl, rfl⟩
        obtain ⟨dx, fs, hx⟩ := hx
        obtain ⟨ox1, od1, J1⟩ := is_inst I1 ⟨dx, fs, L.sm _ _ hx⟩
        have hr2 : Room (k + 2) (X.A.in1.under (lpC a P (i : Int) ((piled (zs.take i) : Nat) : Int))) := lp_roomK hr1
        have h := hs H1' L.sm
        refine own_under (by omega) (Room.units0 hr2) I1.kIn J1 hm.at_ hm.fn (wpAny_call (codeAny_mono (F.run _ X.stack s1 H1' ⟨[.ref x], []⟩ [.ref x] [.ref x] _ E0 (hr2.mono (by omega)) ?_ (.of_eq (hb _ (F.len _ _ _ _ h))) (.cons rfl .nil) h) fun r s2 hq => ?_))
        · have e := I1.env0
          exact ⟨(lp_frames (A := X.A.in1)).trans e.frames, e.mod, e.bs, e.bsz, e.funs, e.frf, e.hok, e.bare⟩
        · cases r with
          | error e => exact False.elim hq
          | ok fl =>
            cases fl with
            | ret u =>
              obtain ⟨v, H2, os2, bare2, un2, hok2, rv, rfl, sm2⟩ := hq
              obtain ⟨t, rfl⟩ := rv
              exact ⟨z, t, rfl, rfl, H2, ⟨L.sm.trans sm2, os2.trans L.os, bare2, L.un.trans un2, hok2, un2.free _ _ gP L.nP (no _)⟩, un2.keep _ _ gP L.nP fP (no _)⟩
            | next => exact False.elim hq
            | brk => exact False.elim hq
            | cont => exact False.elim hq
    · subst e
      have hz2 : t.length ≤ sizeLine := by omega
      refine wpAny_bind (wpAny_mkStr ?_ hz2)
      refine wpAny_bind ?_
      show wpAny _ _ (updateSeq P _) _ _ _
      have hasz : acc.size ≤ sizeLine := by
        have e1 : acc.toList.length = acc.size := by simp
        have e2 : (strValues done).length = done.length := by simp [strValues]
        have e3 : done.length = (zs.take i).length := by rw [← hdone, List.length_map]
        have e4 : (zs.take i).length ≤ i := by rw [List.length_take]; omega
        rw [hacc] at e1
        have : i ≤ 100 := by omega
        exact Nat.le_trans (show acc.size ≤ 100 by omega) (by decide)
      refine wpAny_updateSeq (o := { cls := .type "list", data := .seq acc cc }) gP2 rfl (wpAny_pure ⟨PySem.F.quiet_list_repr_loop _, ?_⟩) hasz
      have lt2 : ∀ b o, s.heap.get? b = some o → b ≠ P := fun b o e => Nat.ne_of_lt (Nat.lt_of_lt_of_le (Heap.lt_size e) hP)
      have off : ∀ {fn : Obj → Obj} (b : Addr), b ≠ P → (s2.heap.update P fn).get? b = s2.heap.get? b := fun b hb => Heap.get?_update_other _ _ (Ne.symm hb)
      have gP3 := Heap.get?_update_self (Obj.mapSeq (·.push (Value.str t s2.toks))) gP2 rfl
      have e1 : ((i : Int) + 1) = ((i + 1 : Nat) : Int) := by omega
      have e2 : ((piled (zs.take i) + (t.length + 2) : Nat) : Int) = ((piled (zs.take (i + 1)) : Nat) : Int) := by omega
      rw [e1, e2]
      refine ih (i + 1) _ H2 (acc.push (.str t s2.toks)) (done ++ [(t, s2.toks)]) _ (by omega) ⟨L2.sm, L2.os, L2.bare, ⟨fun b o e n hf hx => ?_, fun b o e n hf hx => ?_, fun b o e n hx => L2.un.free b o e n hx, fun b o e hx => ?_, L2.un.tups, L2.un.frzs, L2.un.tbls⟩, fun b o e => ?_, L2.nP⟩ gP3 (by simp [hacc, strValues]) (by simp [List.take_add_one, hzi, hdone])
      · exact (off b (lt2 b o e)).trans (L2.un.keep b o e n hf hx)
      · obtain ⟨sl2, e2⟩ := L2.un.slot b o e n hf hx
        exact ⟨sl2, (off b (lt2 b o e)).trans e2⟩
      · obtain ⟨o2, e2⟩ := L2.un.there b o e hx
        exact ⟨o2, (off b (lt2 b o e)).trans e2⟩
      · refine (L2.hok b o e).stay (fun c v hc y => (off c ?_).trans y) (fun _ y => y) fun _ _ y => y
        intro ec
        subst ec
        rcases hc with hc | hc
        · rw [← hc, L2.nP] at e
          cases e
        · rw [L2.nP] at hc
          cases hc
theorem call_reprLK {X : Cx} {k j : Nat} {C : Addr} {ps : List Str} {sp : Sp} (M : MtK X.prog X.w X.K X.mg X.base k C "__repr__" ps sp) (hg : X.A.guards = some []) (hr : Room j X.A) (hk : k + 4 ≤ j) : CallR X (.builtin "repr") (rReprL C sp) := by
  obtain ⟨f, fd, F, hm, b⟩ := M.ex
  intro pins s σ H xs us Q I r hq
  obtain ⟨a, ys, zs, rfl, hl, hne, l100, hz, hI, hS, q⟩ := hq
  obtain ⟨u, rfl, rx⟩ := vals1 r
  cases rx
  obtain ⟨_, its, n, rv, ho⟩ := (show ObjOk X.prog X.w H s.heap a (.lst ys) from I.hok a _ hl)
  obtain ⟨x0, its, rfl⟩ : ∃ x l, its = x :: l := by
    have := rv.length
    match its, ys, this, hne with
    | x :: l, _, _, _ => exact ⟨x, l, rfl⟩
    | [], [], _, h => exact absurd rfl h
  have hr1 : Room (k + 3) X.A.in1 := Room.in1 (hr.mono (show k + 3 + 1 ≤ j by omega))
  refine call_repr_slot (Room.units0 hr1) ⟨_, ho, rfl⟩ PySem.F.slot_list_repr.toG ?_
  refine wpAny_call (codeAny_call_builtin PySem.F.slot_list_repr.plain PySem.F.entry_list_repr (PySem.F.slot_list_repr.check _ _ _ _ _ _ _ _ ⟨_, ho, rfl⟩ (PySem.F.args_list_repr_1 _) ?_))
  refine wpAny_list_repr_head (A := X.A.in1.in1) hg (fun v rest kw hm => nomatch hm) ho rfl ?_
  refine wpAny_bind (m := newList []) (wpAny_newObj_type ?_)
  refine wpAny_pure ⟨PySem.F.quiet_list_repr_loop _, ?_⟩
  have kp : ∀ b o, s.heap.get? b = some o → (s.heap.push ({ cls := .type "list", data := .seq [].toArray } : Obj)).get? b = some o := fun b o e => Heap.get?_push_of_some _ e
  have I1 : Inv X pins σ H { s with heap := s.heap.push ({ cls := .type "list", data := .seq [].toArray } : Obj) } := I.kept (t' := s.toks) kp
  have gP : (s.heap.push ({ cls := .type "list", data := .seq [].toArray } : Obj)).get? s.heap.objs.size = some ({ cls := .type "list", data := .seq [].toArray } : Obj) := Heap.get?_push_size _ rfl
  have nP : H s.heap.objs.size = none := I.hok.fresh (Nat.le_refl _)
  have fP : s.heap.objs.size ∉ frs X.stack := fun z => by
    rcases List.mem_cons.mp (I.stkSub _ z) with e | e
    · have h1 := I.lt
      rw [← e] at h1
      exact Nat.lt_irrefl _ h1
    · exact I.nofs (Nat.le_refl _) e
  have L0 : InLoop X s H s.heap.objs.size { s with heap := s.heap.push ({ cls := .type "list", data := .seq [].toArray } : Obj) } H := ⟨Same.refl H, rfl, I1.bare, ⟨fun b o e _ _ _ => kp b o e, fun b o e _ _ _ => ⟨o.slots, kp b o e⟩, fun b o e n _ => n, fun b o e _ => ⟨_, kp b o e⟩, fun _ _ e => e, fun _ _ _ e => e, fun b ps e => ⟨#[], by simpa using e⟩⟩, I1.hok, nP⟩
  refine loopL F hm b hr1 I hl (Nat.le_refl _) fP hz l100 hI hS (fun u s1 H1 L => ?_) trivial ys.length 0 _ H #[] [] _ (by omega) L0 gP rfl (by simp)
  exact ⟨_, _, rfl, I.after ⟨.str (listText zs), H1, L.os, L.bare, L.un, L.hok, ⟨_, rfl⟩, q H1 L.sm⟩⟩
end Lw

/-! ## FpF -/
set_option maxHeartbeats 1000000
namespace Lw
open PySem PySem.Spec PyProof.Rows L2 L2H
open Fm (cf Asc Nm)
section
variable {P : Program} {w : World} {K : PySem.W.Frag} {mg : Str → Option Value} {base : Heap} {C : Addr}
theorem ok_pieces_ofH {f : Addr} {fd : FuncData} (F : Fun K "_pieces_of" "_pieces_of" s__pieces_of f fd) (T : Ta mg) : FnH P w K mg base CX0 1 f fd ["terms"] spPieces := by
  refine okHt F sc__pieces_of (fun vs H Q E h => ?_) (fun cdv A outer s H vs Q E p0 hot hr h => ?_)
  · obtain ⟨t, ts, rfl, _⟩ := h
    rfl
  · obtain ⟨t, ts, rfl, ⟨ps, ht, hp⟩, ⟨bl, bb⟩, sy, k⟩ := h
    refine ⟨_, (pss_cons (ps_set (i := 1) sc__pieces_of.nd rfl (by first | exact .inl rfl | exact .inr rfl) (pe_lstS pa_nil))
  (pss_cons (ps_forH PassesOwn.never hot (pi_tupH (pv 0)) (pg_tupH hot (pgs_cons (pg_name (i := 2) sc__pieces_of.nd rfl (by first | exact .inl rfl | exact .inr rfl)) (pgs_cons (pg_name (i := 3) sc__pieces_of.nd rfl (by first | exact .inl rfl | exact .inr rfl)) pgs_nil)))
    (pss_cons (ps_mid (ps_if (pt_truth (pv 1) (by intro _; rfl))
    (pss_one (ps_expr (pe_bm PySem.F.plainAttrs_list PySem.F.slot_list_append PySem.F.type_list_append mt_append (pv 1) (pa_cons (pe_mid (pe_ifExp (pt_cmpR op_lt (pv 3) pe_int (nomark _)) pe_str pe_str)) pa_nil))))
    (pss_one (ps_mid (ps_if (pt_cmpR op_lt (pv 3) pe_int (nomark _))
    (pss_one (ps_expr (pe_bm PySem.F.plainAttrs_list PySem.F.slot_list_append PySem.F.type_list_append mt_append (pv 1) (pa_cons pe_str pa_nil))))
    pss_nil)))))
  (pss_one (ps_expr (pe_bm PySem.F.plainAttrs_list PySem.F.slot_list_append PySem.F.type_list_append mt_append (pv 1) (pa_cons (pe_mid (pe_ifExp (pt_cmpR op_eq (pe_callB call_abs (by rfl) T.b_abs (by decide +kernel) (pa_cons (pv 3) pa_nil)) pe_int (nomark _)) (pv 2) (pe_joined (PJ.cons (pe_fmt (pe_callB call_abs (by rfl) T.b_abs (by decide +kernel) (pa_cons (pv 3) pa_nil))) (PJ.cons pe_str (PJ.cons (pe_fmt (pv 2)) PJ.nil)))))) pa_nil))))))
  (pss_one (ps_ret (pv 1))))), ?_⟩
    have lps := hp.len
    refine ⟨Nat.zero_le _, fun L H1 nL s1 h1 => ?_⟩
    refine ⟨_, rfl, t, rfl, ⟨_, (ht.same s1).sq⟩, for_tup (K := K) (a := t) (xs := ps.map V.ref) (fun i σ H' => ∃ (x2 x3 : Option V), σ = [some (.ref t), some (.ref L), x2, x3] ∧ Same H H' ∧ H' L = some (.lst ((Fm.pcsS [] (ts.take i)).map V.str)))
      ⟨_, _, rfl, s1, h1⟩ (fun i σ H' _ ⟨_, _, _, s', _⟩ => (ht.same s').sq) ?_ ?_⟩
    · rintro i x σ H2 hi ⟨x2, x3, rfl, s2, hL⟩
      obtain ⟨p, q, rfl, hiq, hpq⟩ := hp.get hi
      obtain ⟨sy1, g⟩ := q
      have li : i < ts.length := (List.getElem?_eq_some_iff.mp hiq).1
      have gb : g.natAbs < 2 ^ 1000 := bb _ (List.mem_of_getElem? hiq)
      have sl : sy1.length ≤ 8 := (sy _ (List.mem_of_getElem? hiq)).1
      have lp := pcs_len (ts.take i) []
      have lt2 : (ts.take i).length ≤ 60 := Nat.le_trans (List.length_take_le _ _) (by omega)
      have lp : (Fm.pcsS [] (ts.take i)).length ≤ 120 := by simp only [List.length_nil] at lp; omega
      generalize hl : Fm.pcsS [] (ts.take i) = l at hL lp
      have big : ∀ {n : Nat}, n ≤ 1000 → n ≤ sizeLine := fun h => Nat.le_trans h (by decide)
      have st2 : ∀ (H' : Hp), (∀ b o, b ≠ L → H2 b = some o → H' b = some o) → Same H H' := fun H' k b o e => k b o (ne_of_none e nL) (s2 _ _ e)
      refine ⟨p, _, rfl, SqT.of (s2 _ _ hpq), rfl, _, _, rfl, _, _, rfl, rfl, ?_⟩
      refine ⟨fun σ' H' => σ' = [some (.ref t), some (.ref L), some (.str sy1), some (.int g)] ∧ (∀ b o, b ≠ L → H2 b = some o → H' b = some o) ∧ H' L = some (.lst ((l ++ (if l = [] then (if g < 0 then [("-" : Str)] else []) else [Fm.sgnM g])).map V.str)), ?_, ?_⟩
      · refine ⟨_, rfl, !(l.map V.str).isEmpty, .inl ⟨_, SqL.of hL, rfl⟩, ite2 (fun hne => ?_) fun he => ?_⟩
        · have ne : l ≠ [] := fun e => by rw [e] at hne; exact absurd hne (by decide)
          rw [if_neg ne]
          refine ⟨_, rfl, .inl ⟨rfl, _, SqL.of hL⟩, fun v H' => v = .str (Fm.sgnM g) ∧ H' = H2, ⟨_, rfl, _, _, rfl, rfl, _, rfl, ite2 (fun hg => ?_) fun hg => ?_⟩, ?_⟩
          · rw [show Fm.sgnM g = " - " from if_pos (of_decide_eq_true hg)]
            exact ⟨rfl, rfl⟩
          · rw [show Fm.sgnM g = " + " from if_neg (fun q => hg (decide_eq_true q))]
            exact ⟨rfl, rfl⟩
          · rintro v H' ⟨rfl, rfl⟩
            refine ⟨L, _, _, rfl, rfl, hL, ?_, rfl, fun b o n e => ?_, ?_⟩
            · rw [List.length_map]
              exact Nat.lt_of_le_of_lt (show l.length ≤ 1000 by omega) (by decide)
            · rw [upd_ne n]
              exact e
            · rw [upd_same, List.map_append]
              rfl
        · have em : l = [] := by
            cases l with
            | nil => rfl
            | cons a b => exact absurd (show (!(List.map V.str (a :: b)).isEmpty) = true from rfl) he
          rw [if_pos em]
          refine ⟨fun σ' H' => σ' = [some (.ref t), some (.ref L), some (.str sy1), some (.int g)] ∧ (∀ b o, b ≠ L → H2 b = some o → H' b = some o) ∧ H' L = some (.lst ((l ++ (if g < 0 then [("-" : Str)] else [])).map V.str)), ⟨_, rfl, _, _, rfl, rfl, _, rfl, ite2 (fun hg => ?_) fun hg => ?_⟩, fun σ' H' z => z⟩
          · rw [if_pos (of_decide_eq_true hg)]
            refine ⟨_, rfl, .inl ⟨rfl, _, SqL.of hL⟩, L, _, _, rfl, rfl, hL, ?_, rfl, fun b o n e => ?_, ?_⟩
            · rw [List.length_map]
              exact Nat.lt_of_le_of_lt (show l.length ≤ 1000 by omega) (by decide)
            · rw [upd_ne n]
              exact e
            · rw [upd_same, List.map_append]
              rfl
          · rw [if_neg (fun q => hg (decide_eq_true q)), List.append_nil]
            exact ⟨rfl, fun _ _ _ e => e, hL⟩
      · rintro σ' H3 ⟨rfl, s3, hL3⟩
        have wl := word_len sl gb
        have l3 : (l ++ (if l = [] then (if g < 0 then [("-" : Str)] else []) else [Fm.sgnM g])).length ≤ 200 := by
          have : (if l = [] then (if g < 0 then [("-" : Str)] else []) else [Fm.sgnM g]).length ≤ 1 := by
            split
            · split <;> simp
            · simp
          rw [List.length_append]
          omega
        refine ⟨_, rfl, .inl ⟨rfl, _, SqL.of hL3⟩, fun v H' => v = .str (Fm.wordS sy1 g) ∧ H' = H3, ⟨_, rfl, g, rfl, rfl, _, rfl, ite2 (fun h1 => ?_) fun h1 => ?_⟩, ?_⟩
        · have e : Fm.absI g = 1 := by simpa [Fm.absI] using h1
          exact ⟨_, rfl, by rw [show Fm.wordS sy1 g = sy1 from if_pos e], rfl⟩
        · have e : ¬ Fm.absI g = 1 := by simpa [Fm.absI] using h1
          have ew : Str.empty ++ Fm.numS g ++ ("*" : Str) ++ sy1 = Fm.wordS sy1 g := by
            rw [empty_app]
            exact (if_neg e).symm
          have lw : ∀ {a b : Str}, (a ++ b).length = a.length + b.length := fun {a b} => by
            show (_ ++ _ : Array Nat).size = _
            rw [Array.size_append]
            rfl
          have ln := num_len gb
          refine ⟨_, rfl, g, rfl, .inr ⟨_, rfl, log_of gb, Fm.numS g, rfl, ?_, "*", rfl, ?_, _, rfl, .inl ⟨sy1, rfl, big (by omega), sy1, rfl, ?_, ?_⟩⟩⟩
          · rw [empty_app]
            exact Nat.le_trans ln (by decide)
          · rw [empty_app, lw]
            exact Nat.le_trans (show (Fm.numS g).length + 1 ≤ 2000 by omega) (by decide)
          · rw [ew]
            exact Nat.le_trans wl (by decide)
          · exact ⟨congrArg V.str ew, rfl⟩
        · rintro v H' ⟨rfl, rfl⟩
          refine ⟨L, _, _, rfl, rfl, hL3, ?_, _, _, rfl, st2 _ fun b o n e => ?_, ?_⟩
          · rw [List.length_map]
            exact Nat.lt_of_le_of_lt (show _ ≤ 1000 by omega) (by decide)
          · rw [upd_ne n]
            exact s3 _ _ n e
          · rw [upd_same, pcs_take hiq, hl]
            show _ = some (HO.lst (((l ++ (if l = [] then (if g < 0 then [("-" : Str)] else []) else [Fm.sgnM g])) ++ [Fm.wordS sy1 g]).map V.str))
            generalize l ++ (if l = [] then (if g < 0 then [("-" : Str)] else []) else [Fm.sgnM g]) = m
            rw [List.map_append]
            rfl
    · rintro σ H2 ⟨x2, x3, rfl, s2, hL⟩
      rw [List.length_map, lps, List.take_length] at hL
      exact ⟨_, rfl, k L H2 s2 nL hL⟩
theorem ok_strH {f : Addr} {fd : FuncData} (F : Fun K "__str__" "Form.__str__" s_Form_str f fd) (C0 : Fc K mg C) (c__pieces_of : CalH P w K mg base 1 "_pieces_of" ["terms"] spPieces) : FnH P w K mg base CX0 2 f fd ["self"] (spStr C) := by
  refine okHt F sc_Form_str (fun vs H Q E h => ?_) (fun cdv A outer s H vs Q E p0 hot hr h => ?_)
  · obtain ⟨a, ts, rfl, _⟩ := h
    rfl
  · obtain ⟨a, ts, rfl, ⟨dx, t, u, ha, ht, hu⟩, b, sy, k⟩ := h
    refine ⟨_, (pss_cons (ps_if (pt_not (pt_truth (pe_fld (pv 0) rfl) (by intro _; rfl)))
    (pss_one (ps_ret pe_str))
    pss_nil)
  (pss_one (ps_ret (pe_bm PySem.F.plainAttrs_str PySem.F.slot_str_join PySem.F.type_str_join mt_join pe_str (pa_cons (pe_ch c__pieces_of hr hot (by decide) rfl (pa_cons (pe_fld (pv 0) rfl) pa_nil)) pa_nil))))), ?_⟩
    have sh := Fm.shown_text (ts := ts) fun q m => (sy q m).2.ne
    obtain ⟨ps, hf, hp⟩ := id ht
    refine ⟨_, rfl, a, C, dx, _, _, rfl, ha, C0.cls, C0.nT, rfl, !(ps.map V.ref).isEmpty, .inr (.inl ⟨_, hf.sq, rfl⟩), ?_⟩
    cases hts : ts with
    | nil =>
      subst hts
      cases hp
      refine iteT ?_
      have := k H (Same.refl H)
      rw [← sh] at this
      exact this
    | cons q r =>
      rw [hts] at hp
      cases hp with
      | cons h1 h2 =>
        refine iteF ?_
        refine ⟨rfl, _, rfl, a, C, dx, _, _, rfl, ha, C0.cls, C0.nT, rfl, t, ts, rfl, ht, b, sy, fun p H1 s1 np hp1 => ⟨_, p, _, rfl, rfl, .inl (SqL.of hp1), ?_, ?_⟩⟩
        · have := pcs_sum b sy
          show _ + _ * 0 ≤ _
          omega
        · have := k H1 s1
          rw [← sh, Fm.shownS, if_neg (by rw [hts]; simp)] at this
          exact this
end
end Lw

/-! ## FpH -/
set_option maxHeartbeats 1000000
namespace Lw
open PySem PySem.Spec PyProof.Rows L2 L2H
open Fm (cf Asc Nm)
section
variable {P : Program} {w : World} {K : PySem.W.Frag} {mg : Str → Option Value} {base : Heap} {C : Addr}
theorem ok_reprH {f : Addr} {fd : FuncData} (F : Fun K "__repr__" "Form.__repr__" s_Form_repr f fd) (T : Ta mg) (C0 : Fc K mg C) (M_str : MtH P w K mg base 2 C "__str__" ["self"] (spStr C)) : FnH P w K mg base CX0 7 f fd ["self"] (spReprF C) := by
  refine okHt F sc_Form_repr (fun vs H Q E h => ?_) (fun cdv A outer s H vs Q E p0 hot hr h => ?_)
  · obtain ⟨a, ts, rfl, _⟩ := h
    rfl
  · obtain ⟨a, ts, rfl, ha, b, sy, k⟩ := h
    refine ⟨_, (pss_one (ps_ret (pe_joined (PJ.cons pe_str (PJ.cons (pe_fmt (pe_callTy (call_strH M_str hr hot (by decide)) (by rfl) T.b_str (by decide +kernel) (pa_cons (pv 0) pa_nil))) (PJ.cons pe_str PJ.nil)))))), ?_⟩
    have tl := text_len b sy
    refine ⟨_, rfl, by decide, ?_⟩
    refine ⟨_, rfl, a, rfl, ha.is, a, ts, rfl, ha, b, sy, fun H2 s2 => ⟨⟨_, rfl⟩, ?_⟩⟩
    have l1 : ((Str.empty ++ Str.ofString "Form(") ++ Fm.textS ts).length ≤ 231606 := by
      rw [strLen_append]
      have : (Str.empty ++ Str.ofString "Form(").length = 5 := by decide
      omega
    have l2 : (((Str.empty ++ Str.ofString "Form(") ++ Fm.textS ts) ++ Str.ofString ")").length ≤ 231607 := by
      rw [strLen_append]
      have : (Str.ofString ")").length = 1 := by decide
      omega
    exact .inl ⟨_, rfl, Nat.le_trans tl (by decide), _, rfl, Nat.le_trans l1 (by decide), _, rfl, Nat.le_trans l2 (by decide), k H2 s2⟩
end
end Lw

/-! ## FpI -/
set_option maxHeartbeats 1000000
namespace Lw
open PySem PySem.Spec PyProof.Rows L2 L2H
open Fm (cf Asc Nm)
section
variable {P : Program} {w : World} {K : PySem.W.Frag} {mg : Str → Option Value} {base : Heap} {C : Addr}
theorem ok_pieces_ofK {f : Addr} {fd : FuncData} (F : Fun K "_pieces_of" "_pieces_of" s__pieces_of f fd) (T : Ta mg) : FnOk P w K mg base CX0 1 f fd ["terms"] spPieces := by
  refine F.ok sc__pieces_of (fun vs H Q E h => ?_) (fun cdv A outer s H vs Q E hr h => ?_)
  · obtain ⟨t, ts, rfl, _⟩ := h
    rfl
  · obtain ⟨t, ts, rfl, ⟨ps, ht, hp⟩, ⟨bl, bb⟩, sy, k⟩ := h
    refine ⟨_, (pss_cons (ps_set (i := 1) sc__pieces_of.nd rfl (by first | exact .inl rfl | exact .inr rfl) (pe_lstS pa_nil))
  (pss_cons (ps_for PassesOwn.never rfl (pi_tup (pv 0)) (pg_tup rfl (pgs_cons (pg_name (i := 2) sc__pieces_of.nd rfl (by first | exact .inl rfl | exact .inr rfl)) (pgs_cons (pg_name (i := 3) sc__pieces_of.nd rfl (by first | exact .inl rfl | exact .inr rfl)) pgs_nil)))
    (pss_cons (ps_mid (ps_if (pt_truth (pv 1) (by intro _; rfl))
    (pss_one (ps_expr (pe_bm PySem.F.plainAttrs_list PySem.F.slot_list_append PySem.F.type_list_append mt_append (pv 1) (pa_cons (pe_mid (pe_ifExp (pt_cmpR op_lt (pv 3) pe_int (nomark _)) pe_str pe_str)) pa_nil))))
    (pss_one (ps_mid (ps_if (pt_cmpR op_lt (pv 3) pe_int (nomark _))
    (pss_one (ps_expr (pe_bm PySem.F.plainAttrs_list PySem.F.slot_list_append PySem.F.type_list_append mt_append (pv 1) (pa_cons pe_str pa_nil))))
    pss_nil)))))
  (pss_one (ps_expr (pe_bm PySem.F.plainAttrs_list PySem.F.slot_list_append PySem.F.type_list_append mt_append (pv 1) (pa_cons (pe_mid (pe_ifExp (pt_cmpR op_eq (pe_callB call_abs (by rfl) T.b_abs (by decide +kernel) (pa_cons (pv 3) pa_nil)) pe_int (nomark _)) (pv 2) (pe_joined (PJ.cons (pe_fmt (pe_callB call_abs (by rfl) T.b_abs (by decide +kernel) (pa_cons (pv 3) pa_nil))) (PJ.cons pe_str (PJ.cons (pe_fmt (pv 2)) PJ.nil)))))) pa_nil))))))
  (pss_one (ps_ret (pv 1))))), ?_⟩
    have lps := hp.len
    refine ⟨Nat.zero_le _, fun L H1 nL s1 h1 => ?_⟩
    refine ⟨_, rfl, t, rfl, ⟨_, (ht.same s1).sq⟩, for_tup (K := K) (a := t) (xs := ps.map V.ref) (fun i σ H' => ∃ (x2 x3 : Option V), σ = [some (.ref t), some (.ref L), x2, x3] ∧ Same H H' ∧ H' L = some (.lst ((Fm.pcsS [] (ts.take i)).map V.str)))
      ⟨_, _, rfl, s1, h1⟩ (fun i σ H' _ ⟨_, _, _, s', _⟩ => (ht.same s').sq) ?_ ?_⟩
    · rintro i x σ H2 hi ⟨x2, x3, rfl, s2, hL⟩
      obtain ⟨p, q, rfl, hiq, hpq⟩ := hp.get hi
      obtain ⟨sy1, g⟩ := q
      have li : i < ts.length := (List.getElem?_eq_some_iff.mp hiq).1
      have gb : g.natAbs < 2 ^ 1000 := bb _ (List.mem_of_getElem? hiq)
      have sl : sy1.length ≤ 8 := (sy _ (List.mem_of_getElem? hiq)).1
      have lp := pcs_len (ts.take i) []
      have lt2 : (ts.take i).length ≤ 60 := Nat.le_trans (List.length_take_le _ _) (by omega)
      have lp : (Fm.pcsS [] (ts.take i)).length ≤ 120 := by simp only [List.length_nil] at lp; omega
      generalize hl : Fm.pcsS [] (ts.take i) = l at hL lp
      have big : ∀ {n : Nat}, n ≤ 1000 → n ≤ sizeLine := fun h => Nat.le_trans h (by decide)
      have st2 : ∀ (H' : Hp), (∀ b o, b ≠ L → H2 b = some o → H' b = some o) → Same H H' := fun H' k b o e => k b o (ne_of_none e nL) (s2 _ _ e)
      refine ⟨p, _, rfl, SqT.of (s2 _ _ hpq), rfl, _, _, rfl, _, _, rfl, rfl, ?_⟩
      refine ⟨fun σ' H' => σ' = [some (.ref t), some (.ref L), some (.str sy1), some (.int g)] ∧ (∀ b o, b ≠ L → H2 b = some o → H' b = some o) ∧ H' L = some (.lst ((l ++ (if l = [] then (if g < 0 then [("-" : Str)] else []) else [Fm.sgnM g])).map V.str)), ?_, ?_⟩
      · refine ⟨_, rfl, !(l.map V.str).isEmpty, .inl ⟨_, SqL.of hL, rfl⟩, ite2 (fun hne => ?_) fun he => ?_⟩
        · have ne : l ≠ [] := fun e => by rw [e] at hne; exact absurd hne (by decide)
          rw [if_neg ne]
          refine ⟨_, rfl, .inl ⟨rfl, _, SqL.of hL⟩, fun v H' => v = .str (Fm.sgnM g) ∧ H' = H2, ⟨_, rfl, _, _, rfl, rfl, _, rfl, ite2 (fun hg => ?_) fun hg => ?_⟩, ?_⟩
          · rw [show Fm.sgnM g = " - " from if_pos (of_decide_eq_true hg)]
            exact ⟨rfl, rfl⟩
          · rw [show Fm.sgnM g = " + " from if_neg (fun q => hg (decide_eq_true q))]
            exact ⟨rfl, rfl⟩
          · rintro v H' ⟨rfl, rfl⟩
            refine ⟨L, _, _, rfl, rfl, hL, ?_, rfl, fun b o n e => ?_, ?_⟩
            · rw [List.length_map]
              exact Nat.lt_of_le_of_lt (show l.length ≤ 1000 by omega) (by decide)
            · rw [upd_ne n]
              exact e
            · rw [upd_same, List.map_append]
              rfl
        · have em : l = [] := by
            cases l with
            | nil => rfl
            | cons a b => exact absurd (show (!(List.map V.str (a :: b)).isEmpty) = true from rfl) he
          rw [if_pos em]
          refine ⟨fun σ' H' => σ' = [some (.ref t), some (.ref L), some (.str sy1), some (.int g)] ∧ (∀ b o, b ≠ L → H2 b = some o → H' b = some o) ∧ H' L = some (.lst ((l ++ (if g < 0 then [("-" : Str)] else [])).map V.str)), ⟨_, rfl, _, _, rfl, rfl, _, rfl, ite2 (fun hg => ?_) fun hg => ?_⟩, fun σ' H' z => z⟩
          · rw [if_pos (of_decide_eq_true hg)]
            refine ⟨_, rfl, .inl ⟨rfl, _, SqL.of hL⟩, L, _, _, rfl, rfl, hL, ?_, rfl, fun b o n e => ?_, ?_⟩
            · rw [List.length_map]
              exact Nat.lt_of_le_of_lt (show l.length ≤ 1000 by omega) (by decide)
            · rw [upd_ne n]
              exact e
            · rw [upd_same, List.map_append]
              rfl
          · rw [if_neg (fun q => hg (decide_eq_true q)), List.append_nil]
            exact ⟨rfl, fun _ _ _ e => e, hL⟩
      · rintro σ' H3 ⟨rfl, s3, hL3⟩
        have wl := word_len sl gb
        have l3 : (l ++ (if l = [] then (if g < 0 then [("-" : Str)] else []) else [Fm.sgnM g])).length ≤ 200 := by
          have : (if l = [] then (if g < 0 then [("-" : Str)] else []) else [Fm.sgnM g]).length ≤ 1 := by
            split
            · split <;> simp
            · simp
          rw [List.length_append]
          omega
        refine ⟨_, rfl, .inl ⟨rfl, _, SqL.of hL3⟩, fun v H' => v = .str (Fm.wordS sy1 g) ∧ H' = H3, ⟨_, rfl, g, rfl, rfl, _, rfl, ite2 (fun h1 => ?_) fun h1 => ?_⟩, ?_⟩
        · have e : Fm.absI g = 1 := by simpa [Fm.absI] using h1
          exact ⟨_, rfl, by rw [show Fm.wordS sy1 g = sy1 from if_pos e], rfl⟩
        · have e : ¬ Fm.absI g = 1 := by simpa [Fm.absI] using h1
          have ew : Str.empty ++ Fm.numS g ++ ("*" : Str) ++ sy1 = Fm.wordS sy1 g := by
            rw [empty_app]
            exact (if_neg e).symm
          have lw : ∀ {a b : Str}, (a ++ b).length = a.length + b.length := fun {a b} => by
            show (_ ++ _ : Array Nat).size = _
            rw [Array.size_append]
            rfl
          have ln := num_len gb
          refine ⟨_, rfl, g, rfl, .inr ⟨_, rfl, log_of gb, Fm.numS g, rfl, ?_, "*", rfl, ?_, _, rfl, .inl ⟨sy1, rfl, big (by omega), sy1, rfl, ?_, ?_⟩⟩⟩
          · rw [empty_app]
            exact Nat.le_trans ln (by decide)
          · rw [empty_app, lw]
            exact Nat.le_trans (show (Fm.numS g).length + 1 ≤ 2000 by omega) (by decide)
          · rw [ew]
            exact Nat.le_trans wl (by decide)
          · exact ⟨congrArg V.str ew, rfl⟩
        · rintro v H' ⟨rfl, rfl⟩
          refine ⟨L, _, _, rfl, rfl, hL3, ?_, _, _, rfl, st2 _ fun b o n e => ?_, ?_⟩
          · rw [List.length_map]
            exact Nat.lt_of_le_of_lt (show _ ≤ 1000 by omega) (by decide)
          · rw [upd_ne n]
            exact s3 _ _ n e
          · rw [upd_same, pcs_take hiq, hl]
            show _ = some (HO.lst (((l ++ (if l = [] then (if g < 0 then [("-" : Str)] else []) else [Fm.sgnM g])) ++ [Fm.wordS sy1 g]).map V.str))
            generalize l ++ (if l = [] then (if g < 0 then [("-" : Str)] else []) else [Fm.sgnM g]) = m
            rw [List.map_append]
            rfl
    · rintro σ H2 ⟨x2, x3, rfl, s2, hL⟩
      rw [List.length_map, lps, List.take_length] at hL
      exact ⟨_, rfl, k L H2 s2 nL hL⟩
theorem ok_strK {f : Addr} {fd : FuncData} (F : Fun K "__str__" "Form.__str__" s_Form_str f fd) (C0 : Fc K mg C) (c__pieces_of : CalK P w K mg base 1 "_pieces_of" ["terms"] spPieces) : FnOk P w K mg base CX0 2 f fd ["self"] (spStr C) := by
  refine F.ok sc_Form_str (fun vs H Q E h => ?_) (fun cdv A outer s H vs Q E hr h => ?_)
  · obtain ⟨a, ts, rfl, _⟩ := h
    rfl
  · obtain ⟨a, ts, rfl, ⟨dx, t, u, ha, ht, hu⟩, b, sy, k⟩ := h
    refine ⟨_, (pss_cons (ps_if (pt_not (pt_truth (pe_fld (pv 0) rfl) (by intro _; rfl)))
    (pss_one (ps_ret pe_str))
    pss_nil)
  (pss_one (ps_ret (pe_bm PySem.F.plainAttrs_str PySem.F.slot_str_join PySem.F.type_str_join mt_join pe_str (pa_cons (pe_ck1 c__pieces_of hr (by decide) rfl (pa_cons (pe_fld (pv 0) rfl) pa_nil)) pa_nil))))), ?_⟩
    have sh := Fm.shown_text (ts := ts) fun q m => (sy q m).2.ne
    obtain ⟨ps, hf, hp⟩ := id ht
    refine ⟨_, rfl, a, C, dx, _, _, rfl, ha, C0.cls, C0.nT, rfl, !(ps.map V.ref).isEmpty, .inr (.inl ⟨_, hf.sq, rfl⟩), ?_⟩
    cases hts : ts with
    | nil =>
      subst hts
      cases hp
      refine iteT ?_
      have := k H (Same.refl H)
      rw [← sh] at this
      exact this
    | cons q r =>
      rw [hts] at hp
      cases hp with
      | cons h1 h2 =>
        refine iteF ?_
        refine ⟨rfl, _, rfl, a, C, dx, _, _, rfl, ha, C0.cls, C0.nT, rfl, t, ts, rfl, ht, b, sy, fun p H1 s1 np hp1 => ⟨_, p, _, rfl, rfl, .inl (SqL.of hp1), ?_, ?_⟩⟩
        · have := pcs_sum b sy
          show _ + _ * 0 ≤ _
          omega
        · have := k H1 s1
          rw [← sh, Fm.shownS, if_neg (by rw [hts]; simp)] at this
          exact this
theorem ok_reprK {f : Addr} {fd : FuncData} (F : Fun K "__repr__" "Form.__repr__" s_Form_repr f fd) (T : Ta mg) (C0 : Fc K mg C) (M_str : MtK P w K mg base 2 C "__str__" ["self"] (spStr C)) : FnOk P w K mg base CX0 7 f fd ["self"] (spReprF C) := by
  refine F.ok sc_Form_repr (fun vs H Q E h => ?_) (fun cdv A outer s H vs Q E hr h => ?_)
  · obtain ⟨a, ts, rfl, _⟩ := h
    rfl
  · obtain ⟨a, ts, rfl, ha, b, sy, k⟩ := h
    refine ⟨_, (pss_one (ps_ret (pe_joined (PJ.cons pe_str (PJ.cons (pe_fmt (pe_callTy (call_strK M_str hr (by decide)) (by rfl) T.b_str (by decide +kernel) (pa_cons (pv 0) pa_nil))) (PJ.cons pe_str PJ.nil)))))), ?_⟩
    have tl := text_len b sy
    refine ⟨_, rfl, by decide, ?_⟩
    refine ⟨_, rfl, a, rfl, ha.is, a, ts, rfl, ha, b, sy, fun H2 s2 => ⟨⟨_, rfl⟩, ?_⟩⟩
    have l1 : ((Str.empty ++ Str.ofString "Form(") ++ Fm.textS ts).length ≤ 231606 := by
      rw [strLen_append]
      have : (Str.empty ++ Str.ofString "Form(").length = 5 := by decide
      omega
    have l2 : (((Str.empty ++ Str.ofString "Form(") ++ Fm.textS ts) ++ Str.ofString ")").length ≤ 231607 := by
      rw [strLen_append]
      have : (Str.ofString ")").length = 1 := by decide
      omega
    exact .inl ⟨_, rfl, Nat.le_trans tl (by decide), _, rfl, Nat.le_trans l1 (by decide), _, rfl, Nat.le_trans l2 (by decide), k H2 s2⟩
end
end Lw

/-! ## StE -/
set_option maxHeartbeats 1000000
namespace Lw
open PySem PySem.Spec PyProof.Rows L2
open Fm (cf Asc Nm)
def KnS (Z : Sz) (C : Addr) : Prop := ∃ κ, κ < 9 ∧ C = Z.j κ
def rIsSt (Z : Sz) (j : Nat) : List V → Hp → VK → Prop := fun xs H Q => ∃ a κ dx fs, xs = [.ref a, .ref (Z.j j)] ∧ H a = some (.ins (Z.j κ) dx fs) ∧ κ < 9 ∧ Q (.bl (sortK κ j)) H
theorem call_isSt {X : Cx} {K : PySem.W.Frag} {mg : Str → Option Value} {Z : Sz} (hK : X.K = K) (Z0 : Sf K mg Z) (j : Nat) (hj : j < 11) : CallR X (.builtin "isinstance") (rIsSt Z j) := by
  subst hK
  intro pins s σ H xs us Q I r h
  obtain ⟨a, κ, dx, fs, rfl, ha, hκ, q⟩ := h
  obtain ⟨u, w', rfl, ru, rw'⟩ := vals2 r
  cases rw'
  have i := Z0.isc κ hκ
  exact isinst_ok I ru (TyOf.ins ha i.cl i.ha i.hn i.htk i.hm) (Z0.kit κ j hκ hj) fun tk => ⟨.bl (sortK κ j), H, I.tok _, rfl, q⟩
/-- a statement whose line is known -/
def SAt (Z : Sz) (H : Hp) (a : Addr) (κ : Nat) (l : Str) : Prop := κ < 9 ∧ Sm l ∧ l.length ≤ 750000 ∧ ∃ fs, StAt Z H a κ l fs
theorem SAt.same {Z : Sz} {H H' : Hp} {a : Addr} {κ : Nat} {l : Str} (h : SAt Z H a κ l) (s : Same H H') : SAt Z H' a κ l := by
  obtain ⟨h1, h2, h3, fs, h4⟩ := h
  exact ⟨h1, h2, h3, fs, h4.same s⟩
theorem SAt.insK {Z : Sz} {H : Hp} {a : Addr} {κ : Nat} {l : Str} (h : SAt Z H a κ l) : InsK (KnS Z) H a := by
  obtain ⟨h1, _, _, fs, ⟨dx, q, r, mv, e, _⟩⟩ := h
  exact ⟨_, dx, _, e, κ, h1, rfl⟩
def spSEq (K : PySem.W.Frag) (Z : Sz) : Sp := fun vs H Q _ => ∃ (a : Addr) (y : V) (κ : Nat) (l : Str), vs = [.ref a, y] ∧ SAt Z H a κ l ∧ ((∃ b κ' l', y = .ref b ∧ SAt Z H b κ' l' ∧ Q (.bl (decide (l = l'))) H) ∨ ((∃ tn, tn ∈ othS ∧ TyX K H y (.type tn)) ∧ Q (.bl false) H))
def spSStr (Z : Sz) : Sp := fun vs H Q _ => ∃ (a : Addr) (κ : Nat) (l : Str), vs = [.ref a] ∧ SAt Z H a κ l ∧ Q (.str l) H
def reprS (l : Str) : Str := ((Str.empty ++ Str.ofString "Statement(") ++ l) ++ Str.ofString ")"
def spSRepr (Z : Sz) : Sp := fun vs H Q _ => ∃ (a : Addr) (κ : Nat) (l : Str), vs = [.ref a] ∧ SAt Z H a κ l ∧ Q (.str (reprS l)) H
/-- what the other classes say -/
structure So (K : PySem.W.Frag) (Z : Sz) : Prop where
  kit : ∀ tn ∈ othS, PySem.W.kitOne K (.type tn) (.ref (Z.j 10)) = some false
def lineD (l : Str) : PyData := .tuple [.str l]
theorem lineD_sh {l : Str} (h : Sm l) : SeqAt.shaped (lineD l) = true := by
  refine Bool.and_eq_true_iff.mpr ⟨?_, decide_eq_true (by show 1 ≤ 64; decide)⟩
  show (PyData.strOk l && true) = true
  rw [h.ok]
  rfl
theorem eqv_line (l l' : Str) : PyData.eqv (lineD l) (lineD l') = decide (l = l') := by
  show ((l == l') && true) = _
  rw [Bool.and_true]
  by_cases e : l = l'
  · subst e
    simp
  · rw [decide_eq_false e]
    exact beq_eq_false_iff_ne.mpr e
section
variable {P : Program} {w : World} {K : PySem.W.Frag} {mg : Str → Option Value} {base : Heap} {Z : Sz}
theorem lk_lines {q r : Addr} {mv : Int} {fs : List (Str × V)} : List.lookup ("lines" : Str) (bF q r mv ++ fs) = some (V.ref q) := by
  show List.lookup ("lines" : Str) (("lines", V.ref q) :: _) = _
  simp [List.lookup]
theorem is10 (κ : Nat) : sortK κ 10 = true := by
  unfold sortK
  simp
theorem ok_Statement_eq {f : Addr} {fd : FuncData} (F : Fun K "__eq__" "Statement.__eq__" s_Statement_eq f fd) (T : Ta mg) (Z0 : Sf K mg Z) (S0 : So K Z) : FnG P w K mg base 1 f fd ["self", "other"] (spSEq K Z) := by
  refine okG F sc_Statement_eq (fun vs H Q E h => ?_) (fun cdv A outer s H vs Q hr h => ?_)
  · obtain ⟨a, y, κ, l, rfl, _⟩ := h
    rfl
  · obtain ⟨a, y, κ, l, rfl, ⟨hκ, sl, _, fs, ⟨dx, q, r, mv, ha, hq⟩⟩, h⟩ := h
    refine ⟨_, (pss_one (ps_ret (pe_and (pe_callB (CallR.or (call_isSt (K := K) rfl Z0 10 (by decide)) call_isi) (by rfl) T.b_isinstance (by decide +kernel) (pa_cons (pv 1) (pa_cons (pe_gl (v := .ref (Z.j 10)) rfl (Z0.g 10 (by decide))) pa_nil))) (pe_one (pe_cmpR (op_eqD hr.units) (pe_fld (pv 0) rfl) (pe_fld (pv 1) rfl) (nomark _)))))), ?_⟩
    rcases h with ⟨b, κ', l', rfl, ⟨hκ', sl', _, gs, ⟨dy, q2, r2, mv2, hb, hq2⟩⟩, k⟩ | ⟨⟨tn, mt, ty⟩, k⟩
    · refine ⟨_, rfl, .inl ⟨b, κ', dy, _, rfl, hb, hκ', ?_⟩⟩
      rw [is10]
      refine ⟨_, rfl, iteT ?_⟩
      refine ⟨_, rfl, a, _, dx, _, _, rfl, ha, Z0.cls κ hκ, Z0.no κ hκ _ (by decide +kernel), lk_lines, _, rfl, b, _, dy, _, _, rfl, hb, Z0.cls κ' hκ', Z0.no κ' hκ' _ (by decide +kernel), lk_lines, lineD l, lineD l', .tup (SqT.of hq) (.cons (.str _) .nil), .tup (SqT.of hq2) (.cons (.str _) .nil), lineD_sh sl, lineD_sh sl', ?_⟩
      rw [eqv_line]
      exact k
    · exact ⟨_, rfl, .inr ⟨y, .ref (Z.j 10), _, _, false, rfl, .own _, ty, S0.kit tn mt, _, rfl, iteF k⟩⟩
theorem ok_Statement_str {f : Addr} {fd : FuncData} (F : Fun K "__str__" "Statement.__str__" s_Statement_str f fd) (Z0 : Sf K mg Z) : FnG P w K mg base 1 f fd ["self"] (spSStr Z) := by
  refine okG F sc_Statement_str (fun vs H Q E h => ?_) (fun cdv A outer s H vs Q hr h => ?_)
  · obtain ⟨a, κ, l, rfl, _⟩ := h
    rfl
  · obtain ⟨a, κ, l, rfl, ⟨hκ, sl, ll, fs, ⟨dx, q, r, mv, ha, hq⟩⟩, k⟩ := h
    refine ⟨_, (pss_one (ps_ret (pe_bm PySem.F.plainAttrs_str PySem.F.slot_str_join PySem.F.type_str_join mt_join pe_str (pa_cons (pe_fld (pv 0) rfl) pa_nil)))), ?_⟩
    refine ⟨rfl, _, rfl, a, _, dx, _, _, rfl, ha, Z0.cls κ hκ, Z0.no κ hκ _ (by decide +kernel), lk_lines, _, q, [l], rfl, rfl, .inr (SqT.of hq), ?_, ?_⟩
    · show l.length + 0 + 1 * 1 ≤ 16777216
      omega
    · rw [show Txt.join "\n" [l] = l from (StrLaws.glued_eq_join _ _).trans rfl]
      exact k
theorem ok_Statement_repr {f : Addr} {fd : FuncData} (F : Fun K "__repr__" "Statement.__repr__" s_Statement_repr f fd) (Z0 : Sf K mg Z) : FnG P w K mg base 1 f fd ["self"] (spSRepr Z) := by
  refine okG F sc_Statement_repr (fun vs H Q E h => ?_) (fun cdv A outer s H vs Q hr h => ?_)
  · obtain ⟨a, κ, l, rfl, _⟩ := h
    rfl
  · obtain ⟨a, κ, l, rfl, ⟨hκ, sl, ll, fs, ⟨dx, q, r, mv, ha, hq⟩⟩, k⟩ := h
    refine ⟨_, (pss_one (ps_ret (pe_joined (PJ.cons pe_str (PJ.cons (pe_fmt (pe_ix ix_tup (pe_fld (pv 0) rfl) pe_int (fun _ _ => rfl))) (PJ.cons pe_str PJ.nil)))))), ?_⟩
    refine ⟨_, rfl, by (refine Nat.le_trans ?_ (show 1000000 ≤ sizeLine by decide); (try simp only [strLen_append, emp_len, l_sp, l_ob, l_cb, l_op, l_cp, l_cs, l_eq, l_st]); omega), ?_⟩
    exact ⟨_, rfl, a, _, dx, _, _, rfl, ha, Z0.cls κ hκ, Z0.no κ hκ _ (by decide +kernel), lk_lines, q, _, 0, _, rfl, rfl, SqT.of hq, L2.atI_nat (j := 0) rfl, .inl ⟨_, rfl, by (refine Nat.le_trans ?_ (show 1000000 ≤ sizeLine by decide); (try simp only [strLen_append, emp_len, l_sp, l_ob, l_cb, l_op, l_cp, l_cs, l_eq, l_st]); omega), _, rfl, by (refine Nat.le_trans ?_ (show 1000000 ≤ sizeLine by decide); (try simp only [strLen_append, emp_len, l_sp, l_ob, l_cb, l_op, l_cp, l_cs, l_eq, l_st]); omega), _, rfl, by (refine Nat.le_trans ?_ (show 1000000 ≤ sizeLine by decide); (try simp only [strLen_append, emp_len, l_sp, l_ob, l_cb, l_op, l_cp, l_cs, l_eq, l_st]); omega), k⟩⟩
end
end Lw

/-! ## StF -/
set_option maxHeartbeats 1000000
namespace Lw
open PySem PySem.Spec PyProof.Rows L2
open Fm (cf Asc Nm)
abbrev s__law_by_place : Stmt := topS 80
abbrev n__law_by_place : List Str := ["_law_tags", "_law_some", "_law_code", "_law_one", "_law_two", "_law_eff", "_law_gee", "_law_aitch", "_law_found"]
theorem sc__law_by_place : FnScope n__law_by_place ["_law_tags", "_law_some", "_law_code"] (defScope s__law_by_place) := ⟨rfl, rfl, rfl, by decide +kernel, rfl, by decide +kernel, by decide +kernel⟩
abbrev s__law_by_name : Stmt := topS 81
abbrev n__law_by_name : List Str := ["_law_tags", "_law_some", "_law_code", "_law_one", "_law_two", "_law_eff", "_law_gee", "_law_aitch", "_law_found"]
theorem sc__law_by_name : FnScope n__law_by_name ["_law_tags", "_law_some", "_law_code"] (defScope s__law_by_name) := ⟨rfl, rfl, rfl, by decide +kernel, rfl, by decide +kernel, by decide +kernel⟩
/-- what the ten are made of -/
structure Dt where
  n1 : Str
  n2 : Str
  f1 : Addr
  f2 : Addr
  f3 : Addr
  t1 : Tms
  t2 : Tms
  t3 : Tms
  i : Int
structure DtOk (Z : Sz) (H : Hp) (d : Dt) : Prop where
  n1 : Na d.n1
  n2 : Na d.n2
  g1 : FormAt Z.form H d.f1 d.t1
  g2 : FormAt Z.form H d.f2 d.t2
  g3 : FormAt Z.form H d.f3 d.t3
  t1 : NT d.t1
  t2 : NT d.t2
  t3 : NT d.t3
  i : d.i.natAbs < 2 ^ 200
theorem NT.bd {ts : Tms} (h : NT ts) : Bd 60 1000 ts := h.rd.bd (k := 60) (by have := h.len; omega)
theorem DtOk.same {Z : Sz} {H H' : Hp} {d : Dt} (h : DtOk Z H d) (s : Same H H') : DtOk Z H' d := ⟨h.n1, h.n2, h.g1.same s, h.g2.same s, h.g3.same s, h.t1, h.t2, h.t3, h.i⟩
theorem DtOk.G1 {Z : Sz} {H : Hp} {d : Dt} (h : DtOk Z H d) : GF Z.form H d.f1 d.t1 := ⟨h.g1, h.t1.bd, h.t1.rd.sy⟩
theorem DtOk.G2 {Z : Sz} {H : Hp} {d : Dt} (h : DtOk Z H d) : GF Z.form H d.f2 d.t2 := ⟨h.g2, h.t2.bd, h.t2.rd.sy⟩
theorem DtOk.G3 {Z : Sz} {H : Hp} {d : Dt} (h : DtOk Z H d) : GF Z.form H d.f3 d.t3 := ⟨h.g3, h.t3.bd, h.t3.rd.sy⟩
def kindOf (s : Nat) : Nat := if s = 9 then 1 else s
def lineOf (d : Dt) : Nat → Str
  | 0 => lineLet d.n1 d.t1
  | 5 => lineRev (wordK 5) d.n1 d.t2 d.t3
  | 7 => lineFill d.n1 d.t2 d.t3 d.i
  | 8 => lineRes d.n1 d.t1
  | 9 => lineMv (wordK 1) d.n2 d.t3 d.n1 d.t1 d.t2
  | s => lineMv (wordK s) d.n1 d.t1 d.n2 d.t2 d.t3
def fldsOf (d : Dt) : Nat → List (Str × V)
  | 0 => [("field", .str d.n1), ("form", .ref d.f1)]
  | 5 => [("array", .str d.n1), ("start", .ref d.f2), ("amount", .ref d.f3)]
  | 6 => mvF "first" "at" "second" "start" "amount" d.n1 d.f1 d.n2 d.f2 d.f3
  | 7 => [("array", .str d.n1), ("start", .ref d.f2), ("amount", .ref d.f3), ("letter", .int d.i)]
  | 8 => [("array", .str d.n1), ("length", .ref d.f1)]
  | 9 => mvF "target" "to" "source" "start" "amount" d.n2 d.f3 d.n1 d.f1 d.f2
  | _ => mvF "target" "to" "source" "start" "amount" d.n1 d.f1 d.n2 d.f2 d.f3
/-- ten statements made of d -/
def TenAt (Z : Sz) (H : Hp) (d : Dt) (as : List Addr) : Prop := as.length = 10 ∧ ∀ s a, as[s]? = some a → StAt Z H a (kindOf s) (lineOf d s) (fldsOf d s)
theorem TenAt.same {Z : Sz} {H H' : Hp} {d : Dt} {as : List Addr} (h : TenAt Z H d as) (s : Same H H') : TenAt Z H' d as := ⟨h.1, fun i a e => (h.2 i a e).same s⟩
theorem same_new2 {C : Addr} {H1 : Hp} {x dx : Addr} (hx : H1 x = none) (hdx : H1 dx = none) : Same H1 (upd (upd H1 dx (.own x)) x (.ins C dx [])) := fun b o e => by
  rw [upd_ne (ne_of_none e hx), upd_ne (ne_of_none e hdx)]
  exact e
theorem off_new {H1 H2 H' : Hp} {x : Addr} (hx : H1 x = none) (s : Same H1 H2) (o : OffP x H2 H') : Same H1 H' := fun b u e => o b u (ne_of_none e hx) (s b u e)
structure MkS (P : Program) (w : World) (K : PySem.W.Frag) (mg : Str → Option Value) (base : Heap) (Z : Sz) : Prop where
  pLet : MkP P w K mg base 9 "Let" (Z.j 0) (fun vs H Q _ => (spLet Z) vs H Q E0)
  pCopy : MkP P w K mg base 9 "Copy" (Z.j 1) (fun vs H Q _ => (spMv Z 1 "target" "to" "source") vs H Q E0)
  pUp : MkP P w K mg base 9 "Up" (Z.j 2) (fun vs H Q _ => (spMv Z 2 "target" "to" "source") vs H Q E0)
  pDown : MkP P w K mg base 9 "Down" (Z.j 3) (fun vs H Q _ => (spMv Z 3 "target" "to" "source") vs H Q E0)
  pApart : MkP P w K mg base 9 "Apart" (Z.j 4) (fun vs H Q _ => (spMv Z 4 "target" "to" "source") vs H Q E0)
  pReverse : MkP P w K mg base 9 "Reverse" (Z.j 5) (fun vs H Q _ => (spRev Z) vs H Q E0)
  pSwap : MkP P w K mg base 9 "Swap" (Z.j 6) (fun vs H Q _ => (spMv Z 6 "first" "at" "second") vs H Q E0)
  pFill : MkP P w K mg base 9 "Fill" (Z.j 7) (fun vs H Q _ => (spFill Z) vs H Q E0)
  pResize : MkP P w K mg base 9 "Resize" (Z.j 8) (fun vs H Q _ => (spRes Z) vs H Q E0)
  Let_form_field : MkGp P w K mg base 9 "Let" (Z.j 0) ["self", "field", "form"] ["form", "field"] [1, 0] (spLet Z)
  Copy_amount_start_source_to_target : MkGp P w K mg base 9 "Copy" (Z.j 1) ["self", "target", "to", "source", "start", "amount"] ["amount", "start", "source", "to", "target"] [4, 3, 2, 1, 0] (spMv Z 1 "target" "to" "source")
  Up_target_to_source_start_amount : MkGp P w K mg base 9 "Up" (Z.j 2) ["self", "target", "to", "source", "start", "amount"] ["target", "to", "source", "start", "amount"] [0, 1, 2, 3, 4] (spMv Z 2 "target" "to" "source")
  Down_start_target_amount_to_source : MkGp P w K mg base 9 "Down" (Z.j 3) ["self", "target", "to", "source", "start", "amount"] ["start", "target", "amount", "to", "source"] [1, 3, 4, 0, 2] (spMv Z 3 "target" "to" "source")
  Apart_target_source_to_start_amount : MkGp P w K mg base 9 "Apart" (Z.j 4) ["self", "target", "to", "source", "start", "amount"] ["target", "source", "to", "start", "amount"] [0, 2, 1, 3, 4] (spMv Z 4 "target" "to" "source")
  Reverse_amount_array_start : MkGp P w K mg base 9 "Reverse" (Z.j 5) ["self", "array", "start", "amount"] ["amount", "array", "start"] [1, 2, 0] (spRev Z)
  Swap_second_start_first_at_amount : MkGp P w K mg base 9 "Swap" (Z.j 6) ["self", "first", "at", "second", "start", "amount"] ["second", "start", "first", "at", "amount"] [2, 3, 0, 1, 4] (spMv Z 6 "first" "at" "second")
  Fill_letter_start_amount_array : MkGp P w K mg base 9 "Fill" (Z.j 7) ["self", "array", "start", "amount", "letter"] ["letter", "start", "amount", "array"] [3, 1, 2, 0] (spFill Z)
  Resize_length_array : MkGp P w K mg base 9 "Resize" (Z.j 8) ["self", "array", "length"] ["length", "array"] [1, 0] (spRes Z)
  Copy_target_to_source_start_amount : MkGp P w K mg base 9 "Copy" (Z.j 1) ["self", "target", "to", "source", "start", "amount"] ["target", "to", "source", "start", "amount"] [0, 1, 2, 3, 4] (spMv Z 1 "target" "to" "source")
/-- what is no list stays -/
def NoLs (H H' : Hp) : Prop := ∀ b o, H b = some o → (∀ xs, o ≠ .lst xs) → H' b = some o
theorem NoLs.put {H : Hp} {p : Addr} {xs : List V} {o : HO} (h : H p = some (.lst xs)) : NoLs H (upd H p o) := fun b u e n => by
  rw [upd_ne (fun q => by rw [q, h] at e; cases e; exact n xs rfl)]
  exact e
theorem NoLs.of {H H' : Hp} (s : Same H H') : NoLs H H' := fun b o e _ => s b o e
theorem StAt.nol {Z : Sz} {H H' : Hp} {a : Addr} {κ : Nat} {l : Str} {fs : List (Str × V)} (h : StAt Z H a κ l fs) (s : NoLs H H') : StAt Z H' a κ l fs := by
  obtain ⟨dx, q, r, mv, e, f⟩ := h.ex
  exact ⟨dx, q, r, mv, s _ _ e (fun _ q => nomatch q), s _ _ f (fun _ q => nomatch q)⟩
theorem FormAt.nol {C : Addr} {H H' : Hp} {f : Addr} {ts : Tms} (h : FormAt C H f ts) (s : NoLs H H') : FormAt C H' f ts := by
  obtain ⟨dx', t, u, ha, ⟨ps, ⟨o, hd, hf⟩, hp⟩, ⟨o', hd', hf'⟩⟩ := h
  exact ⟨dx', t, u, s _ _ ha (fun _ q => nomatch q), ⟨ps, ⟨o, hd, s _ _ hf (fun _ q => nomatch q)⟩, hp.tups fun b z e => s _ _ e (fun _ q => nomatch q)⟩, ⟨o', hd', s _ _ hf' (fun _ q => nomatch q)⟩⟩
theorem DtOk.nol {Z : Sz} {H H' : Hp} {d : Dt} (h : DtOk Z H d) (s : NoLs H H') : DtOk Z H' d := ⟨h.n1, h.n2, FormAt.nol h.g1 s, FormAt.nol h.g2 s, FormAt.nol h.g3 s, h.t1, h.t2, h.t3, h.i⟩
theorem same_put {H G : Hp} {p : Addr} {o : HO} (s : Same H G) (n : H p = none) : Same H (upd G p o) := fun b u e => by
  rw [upd_ne (ne_of_none e n)]
  exact s b u e
def spTen (K : PySem.W.Frag) (Z : Sz) : Sp := fun vs H Q _ => ∃ (p1 p2 : Addr) (d : Dt), vs = [.ref p1, .ref p2, .int d.i] ∧ H p1 = some (.lst [.str d.n1, .str d.n2]) ∧ H p2 = some (.lst [.ref d.f1, .ref d.f2, .ref d.f3]) ∧ DtOk Z H d ∧
  ∀ r H' as, Same H H' → H r = none → H' r = some (.lst (as.map V.ref)) → TenAt Z H' d as → Q (.ref r) H'
section
variable {P : Program} {w : World} {K : PySem.W.Frag} {mg : Str → Option Value} {base : Heap} {Z : Sz}
theorem ok_law_by_place {f : Addr} {fd : FuncData} (F : Fun K "_law_by_place" "_law_by_place" s__law_by_place f fd) (T : Ta mg) (MK : MkS P w K mg base Z) : FnG P w K mg base 11 f fd ["_law_tags", "_law_some", "_law_code"] (spTen K Z) := by
  refine okG F sc__law_by_place (fun vs H Q E h => ?_) (fun cdv A outer s H vs Q hr h => ?_)
  · obtain ⟨p1, p2, d, rfl, _⟩ := h
    rfl
  · obtain ⟨p1, p2, d, rfl, h1, h2, dk, k⟩ := h
    refine ⟨_, (pss_cons (ps_asg (pe_tupS (pa_cons (pe_ix ix_list (pv 0) pe_int (fun _ _ => rfl)) (pa_cons (pe_ix ix_list (pv 0) pe_int (fun _ _ => rfl)) (pa_cons (pv 1) pa_nil)))) (pg_tup rfl (pgs_cons (pg_name (i := 3) sc__law_by_place.nd rfl (by first | exact .inl rfl | exact .inr rfl)) (pgs_cons (pg_name (i := 4) sc__law_by_place.nd rfl (by first | exact .inl rfl | exact .inr rfl)) (pgs_cons (pg_unl rfl (pgs_cons (pg_name (i := 5) sc__law_by_place.nd rfl (by first | exact .inl rfl | exact .inr rfl)) (pgs_cons (pg_name (i := 6) sc__law_by_place.nd rfl (by first | exact .inl rfl | exact .inr rfl)) (pgs_cons (pg_name (i := 7) sc__law_by_place.nd rfl (by first | exact .inl rfl | exact .inr rfl)) pgs_nil)))) pgs_nil)))))
  (pss_cons (ps_set (i := 8) sc__law_by_place.nd rfl (by first | exact .inl rfl | exact .inr rfl) (pe_lstS (pa_cons (pe_makeP MK.pLet hr (by decide) rfl (pa_cons (pv 3) (pa_cons (pv 5) pa_nil))) (pa_cons (pe_makeP MK.pCopy hr (by decide) rfl (pa_cons (pv 3) (pa_cons (pv 5) (pa_cons (pv 4) (pa_cons (pv 6) (pa_cons (pv 7) pa_nil)))))) (pa_cons (pe_makeP MK.pUp hr (by decide) rfl (pa_cons (pv 3) (pa_cons (pv 5) (pa_cons (pv 4) (pa_cons (pv 6) (pa_cons (pv 7) pa_nil)))))) pa_nil)))))
  (pss_cons (ps_set (i := 8) sc__law_by_place.nd rfl (by first | exact .inl rfl | exact .inr rfl) (pe_op op_catS (pv 8) (pe_lstS (pa_cons (pe_makeP MK.pDown hr (by decide) rfl (pa_cons (pv 3) (pa_cons (pv 5) (pa_cons (pv 4) (pa_cons (pv 6) (pa_cons (pv 7) pa_nil)))))) (pa_cons (pe_makeP MK.pApart hr (by decide) rfl (pa_cons (pv 3) (pa_cons (pv 5) (pa_cons (pv 4) (pa_cons (pv 6) (pa_cons (pv 7) pa_nil)))))) (pa_cons (pe_makeP MK.pReverse hr (by decide) rfl (pa_cons (pv 3) (pa_cons (pv 6) (pa_cons (pv 7) pa_nil)))) pa_nil))))))
  (pss_cons (ps_set (i := 8) sc__law_by_place.nd rfl (by first | exact .inl rfl | exact .inr rfl) (pe_op op_catS (pv 8) (pe_lstS (pa_cons (pe_makeP MK.pSwap hr (by decide) rfl (pa_cons (pv 3) (pa_cons (pv 5) (pa_cons (pv 4) (pa_cons (pv 6) (pa_cons (pv 7) pa_nil)))))) (pa_cons (pe_makeP MK.pFill hr (by decide) rfl (pa_cons (pv 3) (pa_cons (pv 6) (pa_cons (pv 7) (pa_cons (pv 2) pa_nil))))) (pa_cons (pe_makeP MK.pResize hr (by decide) rfl (pa_cons (pv 3) (pa_cons (pv 5) pa_nil))) pa_nil))))))
  (pss_one (ps_ret (pe_op op_catS (pv 8) (pe_lstS (pa_cons (pe_makeP MK.pCopy hr (by decide) rfl (pa_cons (pv 4) (pa_cons (pv 7) (pa_cons (pv 3) (pa_cons (pv 5) (pa_cons (pv 6) pa_nil)))))) pa_nil))))))))), ?_⟩
    refine ⟨_, rfl, p1, _, 0, _, rfl, rfl, SqL.of h1, L2.atI_nat (j := 0) rfl, _, rfl, p1, _, 1, _, rfl, rfl, SqL.of h1, L2.atI_nat (j := 1) rfl, _, rfl, (by show 3 ≤ sizeLine; decide), fun q H1 nq s1 hq => ?_⟩
    refine ⟨q, _, rfl, SqT.of hq, rfl, _, _, rfl, _, _, rfl, _, _, rfl, p2, _, rfl, SqL.of (s1 _ _ h2), rfl, _, _, rfl, _, _, rfl, _, _, rfl, rfl, rfl, ?_⟩
    have d1 := dk.same s1
    refine ⟨_, rfl, _, rfl, fun x dx hx hdx _ => ?_⟩
    have sx := same_new2 (C := Z.j 0) hx hdx
    refine ⟨x, dx, d.n1, d.f1, d.t1, rfl, upd_same, d1.n1.nm, d1.G1.same sx, fun H2 o h0 => ⟨rfl, ?_⟩⟩
    have t2 : Same H1 H2 := off_new hx sx o
    have s2 := s1.trans t2
    have d2 := d1.same t2
    clear sx o hx hdx
    generalize hx0 : x = a0 at h0 ⊢
    clear hx0
    refine ⟨_, rfl, _, rfl, _, rfl, _, rfl, _, rfl, fun x dx hx hdx _ => ?_⟩
    have sx := same_new2 (C := Z.j 1) hx hdx
    refine ⟨x, dx, d.n1, d.f1, d.n2, d.f2, d.f3, d.t1, d.t2, d.t3, rfl, upd_same, d2.n1.nm, d2.n2.nm, d2.G1.same sx, d2.G2.same sx, d2.G3.same sx, fun H3 o h1 => ⟨rfl, ?_⟩⟩
    have t3 : Same H2 H3 := off_new hx sx o
    have s3 := s2.trans t3
    have d3 := d2.same t3
    clear sx o hx hdx
    have h0' := h0.same t3
    clear h0
    have h0 := h0'
    clear h0'
    generalize hx1 : x = a1 at h1 ⊢
    clear hx1
    refine ⟨_, rfl, _, rfl, _, rfl, _, rfl, _, rfl, fun x dx hx hdx _ => ?_⟩
    have sx := same_new2 (C := Z.j 2) hx hdx
    refine ⟨x, dx, d.n1, d.f1, d.n2, d.f2, d.f3, d.t1, d.t2, d.t3, rfl, upd_same, d3.n1.nm, d3.n2.nm, d3.G1.same sx, d3.G2.same sx, d3.G3.same sx, fun H4 o h2 => ⟨rfl, ?_⟩⟩
    have t4 : Same H3 H4 := off_new hx sx o
    have s4 := s3.trans t4
    have d4 := d3.same t4
    clear sx o hx hdx
    have h0' := h0.same t4
    clear h0
    have h0 := h0'
    clear h0'
    have h1' := h1.same t4
    clear h1
    have h1 := h1'
    clear h1'
    generalize hx2 : x = a2 at h2 ⊢
    clear hx2
    refine ⟨(by show 3 ≤ sizeLine; decide), fun q1 H5 nq1 t5 hq1 => ?_⟩
    have s5 := s4.trans t5
    have d5 := d4.same t5
    have h0' := h0.same t5
    clear h0
    have h0 := h0'
    clear h0'
    have h1' := h1.same t5
    clear h1
    have h1 := h1'
    clear h1'
    have h2' := h2.same t5
    clear h2
    have h2 := h2'
    clear h2'
    refine ⟨_, rfl, ?_⟩
    refine ⟨_, rfl, _, rfl, _, rfl, _, rfl, _, rfl, fun x dx hx hdx _ => ?_⟩
    have sx := same_new2 (C := Z.j 3) hx hdx
    refine ⟨x, dx, d.n1, d.f1, d.n2, d.f2, d.f3, d.t1, d.t2, d.t3, rfl, upd_same, d5.n1.nm, d5.n2.nm, d5.G1.same sx, d5.G2.same sx, d5.G3.same sx, fun H6 o h3 => ⟨rfl, ?_⟩⟩
    have t6 : Same H5 H6 := off_new hx sx o
    have s6 := s5.trans t6
    have d6 := d5.same t6
    clear sx o hx hdx
    have h0' := h0.same t6
    clear h0
    have h0 := h0'
    clear h0'
    have h1' := h1.same t6
    clear h1
    have h1 := h1'
    clear h1'
    have h2' := h2.same t6
    clear h2
    have h2 := h2'
    clear h2'
    have hq1' := t6 _ _ hq1
    clear hq1
    have hq1 := hq1'
    clear hq1'
    generalize hx3 : x = a3 at h3 ⊢
    clear hx3
    refine ⟨_, rfl, _, rfl, _, rfl, _, rfl, _, rfl, fun x dx hx hdx _ => ?_⟩
    have sx := same_new2 (C := Z.j 4) hx hdx
    refine ⟨x, dx, d.n1, d.f1, d.n2, d.f2, d.f3, d.t1, d.t2, d.t3, rfl, upd_same, d6.n1.nm, d6.n2.nm, d6.G1.same sx, d6.G2.same sx, d6.G3.same sx, fun H7 o h4 => ⟨rfl, ?_⟩⟩
    have t7 : Same H6 H7 := off_new hx sx o
    have s7 := s6.trans t7
    have d7 := d6.same t7
    clear sx o hx hdx
    have h0' := h0.same t7
    clear h0
    have h0 := h0'
    clear h0'
    have h1' := h1.same t7
    clear h1
    have h1 := h1'
    clear h1'
    have h2' := h2.same t7
    clear h2
    have h2 := h2'
    clear h2'
    have h3' := h3.same t7
    clear h3
    have h3 := h3'
    clear h3'
    have hq1' := t7 _ _ hq1
    clear hq1
    have hq1 := hq1'
    clear hq1'
    generalize hx4 : x = a4 at h4 ⊢
    clear hx4
    refine ⟨_, rfl, _, rfl, _, rfl, fun x dx hx hdx _ => ?_⟩
    have sx := same_new2 (C := Z.j 5) hx hdx
    refine ⟨x, dx, d.n1, d.f2, d.f3, d.t2, d.t3, rfl, upd_same, d7.n1.nm, d7.G2.same sx, d7.G3.same sx, fun H8 o h5 => ⟨rfl, ?_⟩⟩
    have t8 : Same H7 H8 := off_new hx sx o
    have s8 := s7.trans t8
    have d8 := d7.same t8
    clear sx o hx hdx
    have h0' := h0.same t8
    clear h0
    have h0 := h0'
    clear h0'
    have h1' := h1.same t8
    clear h1
    have h1 := h1'
    clear h1'
    have h2' := h2.same t8
    clear h2
    have h2 := h2'
    clear h2'
    have h3' := h3.same t8
    clear h3
    have h3 := h3'
    clear h3'
    have h4' := h4.same t8
    clear h4
    have h4 := h4'
    clear h4'
    have hq1' := t8 _ _ hq1
    clear hq1
    have hq1 := hq1'
    clear hq1'
    generalize hx5 : x = a5 at h5 ⊢
    clear hx5
    refine ⟨(by show 3 ≤ sizeLine; decide), fun q2 H9 nq2 t9 hq2 => ?_⟩
    have s9 := s8.trans t9
    have d9 := d8.same t9
    have h0' := h0.same t9
    clear h0
    have h0 := h0'
    clear h0'
    have h1' := h1.same t9
    clear h1
    have h1 := h1'
    clear h1'
    have h2' := h2.same t9
    clear h2
    have h2 := h2'
    clear h2'
    have h3' := h3.same t9
    clear h3
    have h3 := h3'
    clear h3'
    have h4' := h4.same t9
    clear h4
    have h4 := h4'
    clear h4'
    have h5' := h5.same t9
    clear h5
    have h5 := h5'
    clear h5'
    have hq1' := t9 _ _ hq1
    clear hq1
    have hq1 := hq1'
    clear hq1'
    refine ⟨q1, q2, _, _, rfl, rfl, hq1, hq2, (by show 6 ≤ sizeLine; decide), fun q3 H10 nq3 t10 hq3 => ?_⟩
    have s10 := s9.trans t10
    have d10 := d9.same t10
    have h0' := h0.same t10
    clear h0
    have h0 := h0'
    clear h0'
    have h1' := h1.same t10
    clear h1
    have h1 := h1'
    clear h1'
    have h2' := h2.same t10
    clear h2
    have h2 := h2'
    clear h2'
    have h3' := h3.same t10
    clear h3
    have h3 := h3'
    clear h3'
    have h4' := h4.same t10
    clear h4
    have h4 := h4'
    clear h4'
    have h5' := h5.same t10
    clear h5
    have h5 := h5'
    clear h5'
    have hq1' := t10 _ _ hq1
    clear hq1
    have hq1 := hq1'
    clear hq1'
    have hq2' := t10 _ _ hq2
    clear hq2
    have hq2 := hq2'
    clear hq2'
    refine ⟨_, rfl, ?_⟩
    refine ⟨_, rfl, _, rfl, _, rfl, _, rfl, _, rfl, fun x dx hx hdx _ => ?_⟩
    have sx := same_new2 (C := Z.j 6) hx hdx
    refine ⟨x, dx, d.n1, d.f1, d.n2, d.f2, d.f3, d.t1, d.t2, d.t3, rfl, upd_same, d10.n1.nm, d10.n2.nm, d10.G1.same sx, d10.G2.same sx, d10.G3.same sx, fun H11 o h6 => ⟨rfl, ?_⟩⟩
    have t11 : Same H10 H11 := off_new hx sx o
    have s11 := s10.trans t11
    have d11 := d10.same t11
    clear sx o hx hdx
    have h0' := h0.same t11
    clear h0
    have h0 := h0'
    clear h0'
    have h1' := h1.same t11
    clear h1
    have h1 := h1'
    clear h1'
    have h2' := h2.same t11
    clear h2
    have h2 := h2'
    clear h2'
    have h3' := h3.same t11
    clear h3
    have h3 := h3'
    clear h3'
    have h4' := h4.same t11
    clear h4
    have h4 := h4'
    clear h4'
    have h5' := h5.same t11
    clear h5
    have h5 := h5'
    clear h5'
    have hq1' := t11 _ _ hq1
    clear hq1
    have hq1 := hq1'
    clear hq1'
    have hq2' := t11 _ _ hq2
    clear hq2
    have hq2 := hq2'
    clear hq2'
    have hq3' := t11 _ _ hq3
    clear hq3
    have hq3 := hq3'
    clear hq3'
    generalize hx6 : x = a6 at h6 ⊢
    clear hx6
    refine ⟨_, rfl, _, rfl, _, rfl, _, rfl, fun x dx hx hdx _ => ?_⟩
    have sx := same_new2 (C := Z.j 7) hx hdx
    refine ⟨x, dx, d.n1, d.f2, d.f3, d.t2, d.t3, d.i, rfl, upd_same, d11.n1.nm, d11.G2.same sx, d11.G3.same sx, d11.i, fun H12 o h7 => ⟨rfl, ?_⟩⟩
    have t12 : Same H11 H12 := off_new hx sx o
    have s12 := s11.trans t12
    have d12 := d11.same t12
    clear sx o hx hdx
    have h0' := h0.same t12
    clear h0
    have h0 := h0'
    clear h0'
    have h1' := h1.same t12
    clear h1
    have h1 := h1'
    clear h1'
    have h2' := h2.same t12
    clear h2
    have h2 := h2'
    clear h2'
    have h3' := h3.same t12
    clear h3
    have h3 := h3'
    clear h3'
    have h4' := h4.same t12
    clear h4
    have h4 := h4'
    clear h4'
    have h5' := h5.same t12
    clear h5
    have h5 := h5'
    clear h5'
    have h6' := h6.same t12
    clear h6
    have h6 := h6'
    clear h6'
    have hq1' := t12 _ _ hq1
    clear hq1
    have hq1 := hq1'
    clear hq1'
    have hq2' := t12 _ _ hq2
    clear hq2
    have hq2 := hq2'
    clear hq2'
    have hq3' := t12 _ _ hq3
    clear hq3
    have hq3 := hq3'
    clear hq3'
    generalize hx7 : x = a7 at h7 ⊢
    clear hx7
    refine ⟨_, rfl, _, rfl, fun x dx hx hdx _ => ?_⟩
    have sx := same_new2 (C := Z.j 8) hx hdx
    refine ⟨x, dx, d.n1, d.f1, d.t1, rfl, upd_same, d12.n1.nm, d12.G1.same sx, fun H13 o h8 => ⟨rfl, ?_⟩⟩
    have t13 : Same H12 H13 := off_new hx sx o
    have s13 := s12.trans t13
    have d13 := d12.same t13
    clear sx o hx hdx
    have h0' := h0.same t13
    clear h0
    have h0 := h0'
    clear h0'
    have h1' := h1.same t13
    clear h1
    have h1 := h1'
    clear h1'
    have h2' := h2.same t13
    clear h2
    have h2 := h2'
    clear h2'
    have h3' := h3.same t13
    clear h3
    have h3 := h3'
    clear h3'
    have h4' := h4.same t13
    clear h4
    have h4 := h4'
    clear h4'
    have h5' := h5.same t13
    clear h5
    have h5 := h5'
    clear h5'
    have h6' := h6.same t13
    clear h6
    have h6 := h6'
    clear h6'
    have h7' := h7.same t13
    clear h7
    have h7 := h7'
    clear h7'
    have hq1' := t13 _ _ hq1
    clear hq1
    have hq1 := hq1'
    clear hq1'
    have hq2' := t13 _ _ hq2
    clear hq2
    have hq2 := hq2'
    clear hq2'
    have hq3' := t13 _ _ hq3
    clear hq3
    have hq3 := hq3'
    clear hq3'
    generalize hx8 : x = a8 at h8 ⊢
    clear hx8
    refine ⟨(by show 3 ≤ sizeLine; decide), fun q4 H14 nq4 t14 hq4 => ?_⟩
    have s14 := s13.trans t14
    have d14 := d13.same t14
    have h0' := h0.same t14
    clear h0
    have h0 := h0'
    clear h0'
    have h1' := h1.same t14
    clear h1
    have h1 := h1'
    clear h1'
    have h2' := h2.same t14
    clear h2
    have h2 := h2'
    clear h2'
    have h3' := h3.same t14
    clear h3
    have h3 := h3'
    clear h3'
    have h4' := h4.same t14
    clear h4
    have h4 := h4'
    clear h4'
    have h5' := h5.same t14
    clear h5
    have h5 := h5'
    clear h5'
    have h6' := h6.same t14
    clear h6
    have h6 := h6'
    clear h6'
    have h7' := h7.same t14
    clear h7
    have h7 := h7'
    clear h7'
    have h8' := h8.same t14
    clear h8
    have h8 := h8'
    clear h8'
    have hq1' := t14 _ _ hq1
    clear hq1
    have hq1 := hq1'
    clear hq1'
    have hq2' := t14 _ _ hq2
    clear hq2
    have hq2 := hq2'
    clear hq2'
    have hq3' := t14 _ _ hq3
    clear hq3
    have hq3 := hq3'
    clear hq3'
    refine ⟨q3, q4, _, _, rfl, rfl, hq3, hq4, (by show 9 ≤ sizeLine; decide), fun q5 H15 nq5 t15 hq5 => ?_⟩
    have s15 := s14.trans t15
    have d15 := d14.same t15
    have h0' := h0.same t15
    clear h0
    have h0 := h0'
    clear h0'
    have h1' := h1.same t15
    clear h1
    have h1 := h1'
    clear h1'
    have h2' := h2.same t15
    clear h2
    have h2 := h2'
    clear h2'
    have h3' := h3.same t15
    clear h3
    have h3 := h3'
    clear h3'
    have h4' := h4.same t15
    clear h4
    have h4 := h4'
    clear h4'
    have h5' := h5.same t15
    clear h5
    have h5 := h5'
    clear h5'
    have h6' := h6.same t15
    clear h6
    have h6 := h6'
    clear h6'
    have h7' := h7.same t15
    clear h7
    have h7 := h7'
    clear h7'
    have h8' := h8.same t15
    clear h8
    have h8 := h8'
    clear h8'
    have hq1' := t15 _ _ hq1
    clear hq1
    have hq1 := hq1'
    clear hq1'
    have hq2' := t15 _ _ hq2
    clear hq2
    have hq2 := hq2'
    clear hq2'
    have hq3' := t15 _ _ hq3
    clear hq3
    have hq3 := hq3'
    clear hq3'
    have hq4' := t15 _ _ hq4
    clear hq4
    have hq4 := hq4'
    clear hq4'
    refine ⟨_, rfl, ?_⟩
    refine ⟨_, rfl, _, rfl, _, rfl, _, rfl, _, rfl, fun x dx hx hdx _ => ?_⟩
    have sx := same_new2 (C := Z.j 1) hx hdx
    refine ⟨x, dx, d.n2, d.f3, d.n1, d.f1, d.f2, d.t3, d.t1, d.t2, rfl, upd_same, d15.n2.nm, d15.n1.nm, d15.G3.same sx, d15.G1.same sx, d15.G2.same sx, fun H16 o h9 => ⟨rfl, ?_⟩⟩
    have t16 : Same H15 H16 := off_new hx sx o
    have s16 := s15.trans t16
    have d16 := d15.same t16
    clear sx o hx hdx
    have h0' := h0.same t16
    clear h0
    have h0 := h0'
    clear h0'
    have h1' := h1.same t16
    clear h1
    have h1 := h1'
    clear h1'
    have h2' := h2.same t16
    clear h2
    have h2 := h2'
    clear h2'
    have h3' := h3.same t16
    clear h3
    have h3 := h3'
    clear h3'
    have h4' := h4.same t16
    clear h4
    have h4 := h4'
    clear h4'
    have h5' := h5.same t16
    clear h5
    have h5 := h5'
    clear h5'
    have h6' := h6.same t16
    clear h6
    have h6 := h6'
    clear h6'
    have h7' := h7.same t16
    clear h7
    have h7 := h7'
    clear h7'
    have h8' := h8.same t16
    clear h8
    have h8 := h8'
    clear h8'
    have hq1' := t16 _ _ hq1
    clear hq1
    have hq1 := hq1'
    clear hq1'
    have hq2' := t16 _ _ hq2
    clear hq2
    have hq2 := hq2'
    clear hq2'
    have hq3' := t16 _ _ hq3
    clear hq3
    have hq3 := hq3'
    clear hq3'
    have hq4' := t16 _ _ hq4
    clear hq4
    have hq4 := hq4'
    clear hq4'
    have hq5' := t16 _ _ hq5
    clear hq5
    have hq5 := hq5'
    clear hq5'
    generalize hx9 : x = a9 at h9 ⊢
    clear hx9
    refine ⟨(by show 1 ≤ sizeLine; decide), fun q6 H17 nq6 t17 hq6 => ?_⟩
    have s17 := s16.trans t17
    have d17 := d16.same t17
    have h0' := h0.same t17
    clear h0
    have h0 := h0'
    clear h0'
    have h1' := h1.same t17
    clear h1
    have h1 := h1'
    clear h1'
    have h2' := h2.same t17
    clear h2
    have h2 := h2'
    clear h2'
    have h3' := h3.same t17
    clear h3
    have h3 := h3'
    clear h3'
    have h4' := h4.same t17
    clear h4
    have h4 := h4'
    clear h4'
    have h5' := h5.same t17
    clear h5
    have h5 := h5'
    clear h5'
    have h6' := h6.same t17
    clear h6
    have h6 := h6'
    clear h6'
    have h7' := h7.same t17
    clear h7
    have h7 := h7'
    clear h7'
    have h8' := h8.same t17
    clear h8
    have h8 := h8'
    clear h8'
    have h9' := h9.same t17
    clear h9
    have h9 := h9'
    clear h9'
    have hq1' := t17 _ _ hq1
    clear hq1
    have hq1 := hq1'
    clear hq1'
    have hq2' := t17 _ _ hq2
    clear hq2
    have hq2 := hq2'
    clear hq2'
    have hq3' := t17 _ _ hq3
    clear hq3
    have hq3 := hq3'
    clear hq3'
    have hq4' := t17 _ _ hq4
    clear hq4
    have hq4 := hq4'
    clear hq4'
    have hq5' := t17 _ _ hq5
    clear hq5
    have hq5 := hq5'
    clear hq5'
    refine ⟨q5, q6, _, _, rfl, rfl, hq5, hq6, (by show 10 ≤ sizeLine; decide), fun q7 H18 nq7 t18 hq7 => ?_⟩
    have s18 := s17.trans t18
    have d18 := d17.same t18
    have h0' := h0.same t18
    clear h0
    have h0 := h0'
    clear h0'
    have h1' := h1.same t18
    clear h1
    have h1 := h1'
    clear h1'
    have h2' := h2.same t18
    clear h2
    have h2 := h2'
    clear h2'
    have h3' := h3.same t18
    clear h3
    have h3 := h3'
    clear h3'
    have h4' := h4.same t18
    clear h4
    have h4 := h4'
    clear h4'
    have h5' := h5.same t18
    clear h5
    have h5 := h5'
    clear h5'
    have h6' := h6.same t18
    clear h6
    have h6 := h6'
    clear h6'
    have h7' := h7.same t18
    clear h7
    have h7 := h7'
    clear h7'
    have h8' := h8.same t18
    clear h8
    have h8 := h8'
    clear h8'
    have h9' := h9.same t18
    clear h9
    have h9 := h9'
    clear h9'
    have hq1' := t18 _ _ hq1
    clear hq1
    have hq1 := hq1'
    clear hq1'
    have hq2' := t18 _ _ hq2
    clear hq2
    have hq2 := hq2'
    clear hq2'
    have hq3' := t18 _ _ hq3
    clear hq3
    have hq3 := hq3'
    clear hq3'
    have hq4' := t18 _ _ hq4
    clear hq4
    have hq4 := hq4'
    clear hq4'
    have hq5' := t18 _ _ hq5
    clear hq5
    have hq5 := hq5'
    clear hq5'
    have hq6' := t18 _ _ hq6
    clear hq6
    have hq6 := hq6'
    clear hq6'
    refine k q7 H18 [a0, a1, a2, a3, a4, a5, a6, a7, a8, a9] s18 (s17.free nq7) hq7 ⟨rfl, fun s b e => ?_⟩
    match s, e with
    | 0, e =>
      cases e
      exact h0
    | 1, e =>
      cases e
      exact h1
    | 2, e =>
      cases e
      exact h2
    | 3, e =>
      cases e
      exact h3
    | 4, e =>
      cases e
      exact h4
    | 5, e =>
      cases e
      exact h5
    | 6, e =>
      cases e
      exact h6
    | 7, e =>
      cases e
      exact h7
    | 8, e =>
      cases e
      exact h8
    | 9, e =>
      cases e
      exact h9
    | s + 10, e => simp at e
theorem ok_law_by_name {f : Addr} {fd : FuncData} (F : Fun K "_law_by_name" "_law_by_name" s__law_by_name f fd) (T : Ta mg) (MK : MkS P w K mg base Z) : FnG P w K mg base 11 f fd ["_law_tags", "_law_some", "_law_code"] (spTen K Z) := by
  refine okG F sc__law_by_name (fun vs H Q E h => ?_) (fun cdv A outer s H vs Q hr h => ?_)
  · obtain ⟨p1, p2, d, rfl, _⟩ := h
    rfl
  · obtain ⟨p1, p2, d, rfl, h1, h2, dk, k⟩ := h
    refine ⟨_, (pss_cons (ps_asg (pe_tupS (pa_cons (pe_ix ix_list (pv 0) pe_int (fun _ _ => rfl)) (pa_cons (pe_ix ix_list (pv 0) pe_int (fun _ _ => rfl)) (pa_cons (pv 1) pa_nil)))) (pg_tup rfl (pgs_cons (pg_name (i := 3) sc__law_by_name.nd rfl (by first | exact .inl rfl | exact .inr rfl)) (pgs_cons (pg_name (i := 4) sc__law_by_name.nd rfl (by first | exact .inl rfl | exact .inr rfl)) (pgs_cons (pg_unl rfl (pgs_cons (pg_name (i := 5) sc__law_by_name.nd rfl (by first | exact .inl rfl | exact .inr rfl)) (pgs_cons (pg_name (i := 6) sc__law_by_name.nd rfl (by first | exact .inl rfl | exact .inr rfl)) (pgs_cons (pg_name (i := 7) sc__law_by_name.nd rfl (by first | exact .inl rfl | exact .inr rfl)) pgs_nil)))) pgs_nil)))))
  (pss_cons (ps_set (i := 8) sc__law_by_name.nd rfl (by first | exact .inl rfl | exact .inr rfl) (pe_lstS (pa_cons (pe_makeGp MK.Let_form_field hr (by decide) rfl (pk_cons (pv 5) (pk_cons (pv 3) pk_nil))) (pa_cons (pe_makeGp MK.Copy_amount_start_source_to_target hr (by decide) rfl (pk_cons (pv 7) (pk_cons (pv 6) (pk_cons (pv 4) (pk_cons (pv 5) (pk_cons (pv 3) pk_nil)))))) pa_nil))))
  (pss_cons (ps_expr (pe_bm PySem.F.plainAttrs_list PySem.F.slot_list_append PySem.F.type_list_append mt_append (pv 8) (pa_cons (pe_makeGp MK.Up_target_to_source_start_amount hr (by decide) rfl (pk_cons (pv 3) (pk_cons (pv 5) (pk_cons (pv 4) (pk_cons (pv 6) (pk_cons (pv 7) pk_nil)))))) pa_nil)))
  (pss_cons (ps_expr (pe_bm PySem.F.plainAttrs_list PySem.F.slot_list_append PySem.F.type_list_append mt_append (pv 8) (pa_cons (pe_makeGp MK.Down_start_target_amount_to_source hr (by decide) rfl (pk_cons (pv 6) (pk_cons (pv 3) (pk_cons (pv 7) (pk_cons (pv 5) (pk_cons (pv 4) pk_nil)))))) pa_nil)))
  (pss_cons (ps_expr (pe_bm PySem.F.plainAttrs_list PySem.F.slot_list_append PySem.F.type_list_append mt_append (pv 8) (pa_cons (pe_makeGp MK.Apart_target_source_to_start_amount hr (by decide) rfl (pk_cons (pv 3) (pk_cons (pv 4) (pk_cons (pv 5) (pk_cons (pv 6) (pk_cons (pv 7) pk_nil)))))) pa_nil)))
  (pss_cons (ps_set (i := 8) sc__law_by_name.nd rfl (by first | exact .inl rfl | exact .inr rfl) (pe_op op_catS (pv 8) (pe_lstS (pa_cons (pe_makeGp MK.Reverse_amount_array_start hr (by decide) rfl (pk_cons (pv 7) (pk_cons (pv 3) (pk_cons (pv 6) pk_nil)))) pa_nil))))
  (pss_cons (ps_expr (pe_bm PySem.F.plainAttrs_list PySem.F.slot_list_append PySem.F.type_list_append mt_append (pv 8) (pa_cons (pe_makeGp MK.Swap_second_start_first_at_amount hr (by decide) rfl (pk_cons (pv 4) (pk_cons (pv 6) (pk_cons (pv 3) (pk_cons (pv 5) (pk_cons (pv 7) pk_nil)))))) pa_nil)))
  (pss_cons (ps_set (i := 8) sc__law_by_name.nd rfl (by first | exact .inl rfl | exact .inr rfl) (pe_op op_catS (pv 8) (pe_lstS (pa_cons (pe_makeGp MK.Fill_letter_start_amount_array hr (by decide) rfl (pk_cons (pv 2) (pk_cons (pv 6) (pk_cons (pv 7) (pk_cons (pv 3) pk_nil))))) (pa_cons (pe_makeGp MK.Resize_length_array hr (by decide) rfl (pk_cons (pv 5) (pk_cons (pv 3) pk_nil))) pa_nil)))))
  (pss_one (ps_ret (pe_op op_catS (pv 8) (pe_lstS (pa_cons (pe_makeGp MK.Copy_target_to_source_start_amount hr (by decide) rfl (pk_cons (pv 4) (pk_cons (pv 7) (pk_cons (pv 3) (pk_cons (pv 5) (pk_cons (pv 6) pk_nil)))))) pa_nil))))))))))))), ?_⟩
    refine ⟨_, rfl, p1, _, 0, _, rfl, rfl, SqL.of h1, L2.atI_nat (j := 0) rfl, _, rfl, p1, _, 1, _, rfl, rfl, SqL.of h1, L2.atI_nat (j := 1) rfl, _, rfl, (by show 3 ≤ sizeLine; decide), fun q H1 nq s1 hq => ?_⟩
    refine ⟨q, _, rfl, SqT.of hq, rfl, _, _, rfl, _, _, rfl, _, _, rfl, p2, _, rfl, SqL.of (s1 _ _ h2), rfl, _, _, rfl, _, _, rfl, _, _, rfl, rfl, rfl, ?_⟩
    have d1 := dk.same s1
    refine ⟨_, rfl, _, rfl, rfl, fun x dx hx hdx _ => ?_⟩
    have sx := same_new2 (C := Z.j 0) hx hdx
    refine ⟨x, dx, d.n1, d.f1, d.t1, rfl, upd_same, d1.n1.nm, d1.G1.same sx, fun H2 o h0 => ⟨rfl, ?_⟩⟩
    have t2 : Same H1 H2 := off_new hx sx o
    have s2 := s1.trans t2
    have d2 := d1.same t2
    clear sx o hx hdx
    generalize hx0 : x = a0 at h0 ⊢
    clear hx0
    refine ⟨_, rfl, _, rfl, _, rfl, _, rfl, _, rfl, rfl, fun x dx hx hdx _ => ?_⟩
    have sx := same_new2 (C := Z.j 1) hx hdx
    refine ⟨x, dx, d.n1, d.f1, d.n2, d.f2, d.f3, d.t1, d.t2, d.t3, rfl, upd_same, d2.n1.nm, d2.n2.nm, d2.G1.same sx, d2.G2.same sx, d2.G3.same sx, fun H3 o h1 => ⟨rfl, ?_⟩⟩
    have t3 : Same H2 H3 := off_new hx sx o
    have s3 := s2.trans t3
    have d3 := d2.same t3
    clear sx o hx hdx
    have h0' := h0.same t3
    clear h0
    have h0 := h0'
    clear h0'
    generalize hx1 : x = a1 at h1 ⊢
    clear hx1
    refine ⟨(by show 2 ≤ sizeLine; decide), fun q1 H4 nq1 t4 hq1 => ?_⟩
    have s4 := s3.trans t4
    have d4 := d3.same t4
    have h0' := h0.same t4
    clear h0
    have h0 := h0'
    clear h0'
    have h1' := h1.same t4
    clear h1
    have h1 := h1'
    clear h1'
    have nF : H q1 = none := s3.free nq1
    refine ⟨_, rfl, .inl ⟨rfl, _, SqL.of hq1⟩, ?_⟩
    refine ⟨_, rfl, _, rfl, _, rfl, _, rfl, _, rfl, rfl, fun x dx hx hdx _ => ?_⟩
    have sx := same_new2 (C := Z.j 2) hx hdx
    refine ⟨x, dx, d.n1, d.f1, d.n2, d.f2, d.f3, d.t1, d.t2, d.t3, rfl, upd_same, d4.n1.nm, d4.n2.nm, d4.G1.same sx, d4.G2.same sx, d4.G3.same sx, fun H5 o h2 => ⟨rfl, ?_⟩⟩
    have t5 : Same H4 H5 := off_new hx sx o
    have s5 := s4.trans t5
    have d5 := d4.same t5
    clear sx o hx hdx
    have h0' := h0.same t5
    clear h0
    have h0 := h0'
    clear h0'
    have h1' := h1.same t5
    clear h1
    have h1 := h1'
    clear h1'
    have hq1' := t5 _ _ hq1
    clear hq1
    have hq1 := hq1'
    clear hq1'
    generalize hx2 : x = a2 at h2 ⊢
    clear hx2
    refine ⟨q1, _, _, rfl, rfl, hq1, (by show 2 < sizeLine; decide), ?_⟩
    have tN : NoLs H5 (upd H5 q1 (.lst ([V.ref a0, V.ref a1] ++ [V.ref a2]))) := .put hq1
    have s6 : Same H (upd H5 q1 (.lst ([V.ref a0, V.ref a1] ++ [V.ref a2]))) := same_put s5 (nF)
    have d6 := d5.nol tN
    have h0' := h0.nol tN
    clear h0
    have h0 := h0'
    clear h0'
    have h1' := h1.nol tN
    clear h1
    have h1 := h1'
    clear h1'
    have h2' := h2.nol tN
    clear h2
    have h2 := h2'
    clear h2'
    clear hq1 tN
    have hq1 : (upd H5 q1 (.lst ([V.ref a0, V.ref a1] ++ [V.ref a2]))) q1 = some (.lst [V.ref a0, V.ref a1, V.ref a2]) := upd_same
    generalize hG : upd H5 q1 (.lst ([V.ref a0, V.ref a1] ++ [V.ref a2])) = H6 at s6 d6 h0 h1 h2 hq1 ⊢
    clear hG
    refine ⟨_, rfl, .inl ⟨rfl, _, SqL.of hq1⟩, ?_⟩
    refine ⟨_, rfl, _, rfl, _, rfl, _, rfl, _, rfl, rfl, fun x dx hx hdx _ => ?_⟩
    have sx := same_new2 (C := Z.j 3) hx hdx
    refine ⟨x, dx, d.n1, d.f1, d.n2, d.f2, d.f3, d.t1, d.t2, d.t3, rfl, upd_same, d6.n1.nm, d6.n2.nm, d6.G1.same sx, d6.G2.same sx, d6.G3.same sx, fun H7 o h3 => ⟨rfl, ?_⟩⟩
    have t7 : Same H6 H7 := off_new hx sx o
    have s7 := s6.trans t7
    have d7 := d6.same t7
    clear sx o hx hdx
    have h0' := h0.same t7
    clear h0
    have h0 := h0'
    clear h0'
    have h1' := h1.same t7
    clear h1
    have h1 := h1'
    clear h1'
    have h2' := h2.same t7
    clear h2
    have h2 := h2'
    clear h2'
    have hq1' := t7 _ _ hq1
    clear hq1
    have hq1 := hq1'
    clear hq1'
    generalize hx3 : x = a3 at h3 ⊢
    clear hx3
    refine ⟨q1, _, _, rfl, rfl, hq1, (by show 3 < sizeLine; decide), ?_⟩
    have tN : NoLs H7 (upd H7 q1 (.lst ([V.ref a0, V.ref a1, V.ref a2] ++ [V.ref a3]))) := .put hq1
    have s8 : Same H (upd H7 q1 (.lst ([V.ref a0, V.ref a1, V.ref a2] ++ [V.ref a3]))) := same_put s7 (nF)
    have d8 := d7.nol tN
    have h0' := h0.nol tN
    clear h0
    have h0 := h0'
    clear h0'
    have h1' := h1.nol tN
    clear h1
    have h1 := h1'
    clear h1'
    have h2' := h2.nol tN
    clear h2
    have h2 := h2'
    clear h2'
    have h3' := h3.nol tN
    clear h3
    have h3 := h3'
    clear h3'
    clear hq1 tN
    have hq1 : (upd H7 q1 (.lst ([V.ref a0, V.ref a1, V.ref a2] ++ [V.ref a3]))) q1 = some (.lst [V.ref a0, V.ref a1, V.ref a2, V.ref a3]) := upd_same
    generalize hG : upd H7 q1 (.lst ([V.ref a0, V.ref a1, V.ref a2] ++ [V.ref a3])) = H8 at s8 d8 h0 h1 h2 h3 hq1 ⊢
    clear hG
    refine ⟨_, rfl, .inl ⟨rfl, _, SqL.of hq1⟩, ?_⟩
    refine ⟨_, rfl, _, rfl, _, rfl, _, rfl, _, rfl, rfl, fun x dx hx hdx _ => ?_⟩
    have sx := same_new2 (C := Z.j 4) hx hdx
    refine ⟨x, dx, d.n1, d.f1, d.n2, d.f2, d.f3, d.t1, d.t2, d.t3, rfl, upd_same, d8.n1.nm, d8.n2.nm, d8.G1.same sx, d8.G2.same sx, d8.G3.same sx, fun H9 o h4 => ⟨rfl, ?_⟩⟩
    have t9 : Same H8 H9 := off_new hx sx o
    have s9 := s8.trans t9
    have d9 := d8.same t9
    clear sx o hx hdx
    have h0' := h0.same t9
    clear h0
    have h0 := h0'
    clear h0'
    have h1' := h1.same t9
    clear h1
    have h1 := h1'
    clear h1'
    have h2' := h2.same t9
    clear h2
    have h2 := h2'
    clear h2'
    have h3' := h3.same t9
    clear h3
    have h3 := h3'
    clear h3'
    have hq1' := t9 _ _ hq1
    clear hq1
    have hq1 := hq1'
    clear hq1'
    generalize hx4 : x = a4 at h4 ⊢
    clear hx4
    refine ⟨q1, _, _, rfl, rfl, hq1, (by show 4 < sizeLine; decide), ?_⟩
    have tN : NoLs H9 (upd H9 q1 (.lst ([V.ref a0, V.ref a1, V.ref a2, V.ref a3] ++ [V.ref a4]))) := .put hq1
    have s10 : Same H (upd H9 q1 (.lst ([V.ref a0, V.ref a1, V.ref a2, V.ref a3] ++ [V.ref a4]))) := same_put s9 (nF)
    have d10 := d9.nol tN
    have h0' := h0.nol tN
    clear h0
    have h0 := h0'
    clear h0'
    have h1' := h1.nol tN
    clear h1
    have h1 := h1'
    clear h1'
    have h2' := h2.nol tN
    clear h2
    have h2 := h2'
    clear h2'
    have h3' := h3.nol tN
    clear h3
    have h3 := h3'
    clear h3'
    have h4' := h4.nol tN
    clear h4
    have h4 := h4'
    clear h4'
    clear hq1 tN
    have hq1 : (upd H9 q1 (.lst ([V.ref a0, V.ref a1, V.ref a2, V.ref a3] ++ [V.ref a4]))) q1 = some (.lst [V.ref a0, V.ref a1, V.ref a2, V.ref a3, V.ref a4]) := upd_same
    generalize hG : upd H9 q1 (.lst ([V.ref a0, V.ref a1, V.ref a2, V.ref a3] ++ [V.ref a4])) = H10 at s10 d10 h0 h1 h2 h3 h4 hq1 ⊢
    clear hG
    refine ⟨_, rfl, ?_⟩
    refine ⟨_, rfl, _, rfl, _, rfl, rfl, fun x dx hx hdx _ => ?_⟩
    have sx := same_new2 (C := Z.j 5) hx hdx
    refine ⟨x, dx, d.n1, d.f2, d.f3, d.t2, d.t3, rfl, upd_same, d10.n1.nm, d10.G2.same sx, d10.G3.same sx, fun H11 o h5 => ⟨rfl, ?_⟩⟩
    have t11 : Same H10 H11 := off_new hx sx o
    have s11 := s10.trans t11
    have d11 := d10.same t11
    clear sx o hx hdx
    have h0' := h0.same t11
    clear h0
    have h0 := h0'
    clear h0'
    have h1' := h1.same t11
    clear h1
    have h1 := h1'
    clear h1'
    have h2' := h2.same t11
    clear h2
    have h2 := h2'
    clear h2'
    have h3' := h3.same t11
    clear h3
    have h3 := h3'
    clear h3'
    have h4' := h4.same t11
    clear h4
    have h4 := h4'
    clear h4'
    have hq1' := t11 _ _ hq1
    clear hq1
    have hq1 := hq1'
    clear hq1'
    generalize hx5 : x = a5 at h5 ⊢
    clear hx5
    refine ⟨(by show 1 ≤ sizeLine; decide), fun q2 H12 nq2 t12 hq2 => ?_⟩
    have s12 := s11.trans t12
    have d12 := d11.same t12
    have h0' := h0.same t12
    clear h0
    have h0 := h0'
    clear h0'
    have h1' := h1.same t12
    clear h1
    have h1 := h1'
    clear h1'
    have h2' := h2.same t12
    clear h2
    have h2 := h2'
    clear h2'
    have h3' := h3.same t12
    clear h3
    have h3 := h3'
    clear h3'
    have h4' := h4.same t12
    clear h4
    have h4 := h4'
    clear h4'
    have h5' := h5.same t12
    clear h5
    have h5 := h5'
    clear h5'
    have hq1' := t12 _ _ hq1
    clear hq1
    have hq1 := hq1'
    clear hq1'
    refine ⟨q1, q2, _, _, rfl, rfl, hq1, hq2, (by show 6 ≤ sizeLine; decide), fun q3 H13 nq3 t13 hq3 => ?_⟩
    have s13 := s12.trans t13
    have d13 := d12.same t13
    have h0' := h0.same t13
    clear h0
    have h0 := h0'
    clear h0'
    have h1' := h1.same t13
    clear h1
    have h1 := h1'
    clear h1'
    have h2' := h2.same t13
    clear h2
    have h2 := h2'
    clear h2'
    have h3' := h3.same t13
    clear h3
    have h3 := h3'
    clear h3'
    have h4' := h4.same t13
    clear h4
    have h4 := h4'
    clear h4'
    have h5' := h5.same t13
    clear h5
    have h5 := h5'
    clear h5'
    have hq1' := t13 _ _ hq1
    clear hq1
    have hq1 := hq1'
    clear hq1'
    have hq2' := t13 _ _ hq2
    clear hq2
    have hq2 := hq2'
    clear hq2'
    have nG : H q3 = none := s12.free nq3
    have hq3' : H13 q3 = some (.lst [V.ref a0, V.ref a1, V.ref a2, V.ref a3, V.ref a4, V.ref a5]) := hq3
    clear hq3
    have hq3 := hq3'
    clear hq3'
    refine ⟨_, rfl, .inl ⟨rfl, _, SqL.of hq3⟩, ?_⟩
    refine ⟨_, rfl, _, rfl, _, rfl, _, rfl, _, rfl, rfl, fun x dx hx hdx _ => ?_⟩
    have sx := same_new2 (C := Z.j 6) hx hdx
    refine ⟨x, dx, d.n1, d.f1, d.n2, d.f2, d.f3, d.t1, d.t2, d.t3, rfl, upd_same, d13.n1.nm, d13.n2.nm, d13.G1.same sx, d13.G2.same sx, d13.G3.same sx, fun H14 o h6 => ⟨rfl, ?_⟩⟩
    have t14 : Same H13 H14 := off_new hx sx o
    have s14 := s13.trans t14
    have d14 := d13.same t14
    clear sx o hx hdx
    have h0' := h0.same t14
    clear h0
    have h0 := h0'
    clear h0'
    have h1' := h1.same t14
    clear h1
    have h1 := h1'
    clear h1'
    have h2' := h2.same t14
    clear h2
    have h2 := h2'
    clear h2'
    have h3' := h3.same t14
    clear h3
    have h3 := h3'
    clear h3'
    have h4' := h4.same t14
    clear h4
    have h4 := h4'
    clear h4'
    have h5' := h5.same t14
    clear h5
    have h5 := h5'
    clear h5'
    have hq3' := t14 _ _ hq3
    clear hq3
    have hq3 := hq3'
    clear hq3'
    generalize hx6 : x = a6 at h6 ⊢
    clear hx6
    refine ⟨q3, _, _, rfl, rfl, hq3, (by show 6 < sizeLine; decide), ?_⟩
    have tN : NoLs H14 (upd H14 q3 (.lst ([V.ref a0, V.ref a1, V.ref a2, V.ref a3, V.ref a4, V.ref a5] ++ [V.ref a6]))) := .put hq3
    have s15 : Same H (upd H14 q3 (.lst ([V.ref a0, V.ref a1, V.ref a2, V.ref a3, V.ref a4, V.ref a5] ++ [V.ref a6]))) := same_put s14 (nG)
    have d15 := d14.nol tN
    have h0' := h0.nol tN
    clear h0
    have h0 := h0'
    clear h0'
    have h1' := h1.nol tN
    clear h1
    have h1 := h1'
    clear h1'
    have h2' := h2.nol tN
    clear h2
    have h2 := h2'
    clear h2'
    have h3' := h3.nol tN
    clear h3
    have h3 := h3'
    clear h3'
    have h4' := h4.nol tN
    clear h4
    have h4 := h4'
    clear h4'
    have h5' := h5.nol tN
    clear h5
    have h5 := h5'
    clear h5'
    have h6' := h6.nol tN
    clear h6
    have h6 := h6'
    clear h6'
    clear hq3 tN
    have hq3 : (upd H14 q3 (.lst ([V.ref a0, V.ref a1, V.ref a2, V.ref a3, V.ref a4, V.ref a5] ++ [V.ref a6]))) q3 = some (.lst [V.ref a0, V.ref a1, V.ref a2, V.ref a3, V.ref a4, V.ref a5, V.ref a6]) := upd_same
    generalize hG : upd H14 q3 (.lst ([V.ref a0, V.ref a1, V.ref a2, V.ref a3, V.ref a4, V.ref a5] ++ [V.ref a6])) = H15 at s15 d15 h0 h1 h2 h3 h4 h5 h6 hq3 ⊢
    clear hG
    refine ⟨_, rfl, ?_⟩
    refine ⟨_, rfl, _, rfl, _, rfl, _, rfl, rfl, fun x dx hx hdx _ => ?_⟩
    have sx := same_new2 (C := Z.j 7) hx hdx
    refine ⟨x, dx, d.n1, d.f2, d.f3, d.t2, d.t3, d.i, rfl, upd_same, d15.n1.nm, d15.G2.same sx, d15.G3.same sx, d15.i, fun H16 o h7 => ⟨rfl, ?_⟩⟩
    have t16 : Same H15 H16 := off_new hx sx o
    have s16 := s15.trans t16
    have d16 := d15.same t16
    clear sx o hx hdx
    have h0' := h0.same t16
    clear h0
    have h0 := h0'
    clear h0'
    have h1' := h1.same t16
    clear h1
    have h1 := h1'
    clear h1'
    have h2' := h2.same t16
    clear h2
    have h2 := h2'
    clear h2'
    have h3' := h3.same t16
    clear h3
    have h3 := h3'
    clear h3'
    have h4' := h4.same t16
    clear h4
    have h4 := h4'
    clear h4'
    have h5' := h5.same t16
    clear h5
    have h5 := h5'
    clear h5'
    have h6' := h6.same t16
    clear h6
    have h6 := h6'
    clear h6'
    have hq3' := t16 _ _ hq3
    clear hq3
    have hq3 := hq3'
    clear hq3'
    generalize hx7 : x = a7 at h7 ⊢
    clear hx7
    refine ⟨_, rfl, _, rfl, rfl, fun x dx hx hdx _ => ?_⟩
    have sx := same_new2 (C := Z.j 8) hx hdx
    refine ⟨x, dx, d.n1, d.f1, d.t1, rfl, upd_same, d16.n1.nm, d16.G1.same sx, fun H17 o h8 => ⟨rfl, ?_⟩⟩
    have t17 : Same H16 H17 := off_new hx sx o
    have s17 := s16.trans t17
    have d17 := d16.same t17
    clear sx o hx hdx
    have h0' := h0.same t17
    clear h0
    have h0 := h0'
    clear h0'
    have h1' := h1.same t17
    clear h1
    have h1 := h1'
    clear h1'
    have h2' := h2.same t17
    clear h2
    have h2 := h2'
    clear h2'
    have h3' := h3.same t17
    clear h3
    have h3 := h3'
    clear h3'
    have h4' := h4.same t17
    clear h4
    have h4 := h4'
    clear h4'
    have h5' := h5.same t17
    clear h5
    have h5 := h5'
    clear h5'
    have h6' := h6.same t17
    clear h6
    have h6 := h6'
    clear h6'
    have h7' := h7.same t17
    clear h7
    have h7 := h7'
    clear h7'
    have hq3' := t17 _ _ hq3
    clear hq3
    have hq3 := hq3'
    clear hq3'
    generalize hx8 : x = a8 at h8 ⊢
    clear hx8
    refine ⟨(by show 2 ≤ sizeLine; decide), fun q4 H18 nq4 t18 hq4 => ?_⟩
    have s18 := s17.trans t18
    have d18 := d17.same t18
    have h0' := h0.same t18
    clear h0
    have h0 := h0'
    clear h0'
    have h1' := h1.same t18
    clear h1
    have h1 := h1'
    clear h1'
    have h2' := h2.same t18
    clear h2
    have h2 := h2'
    clear h2'
    have h3' := h3.same t18
    clear h3
    have h3 := h3'
    clear h3'
    have h4' := h4.same t18
    clear h4
    have h4 := h4'
    clear h4'
    have h5' := h5.same t18
    clear h5
    have h5 := h5'
    clear h5'
    have h6' := h6.same t18
    clear h6
    have h6 := h6'
    clear h6'
    have h7' := h7.same t18
    clear h7
    have h7 := h7'
    clear h7'
    have h8' := h8.same t18
    clear h8
    have h8 := h8'
    clear h8'
    have hq3' := t18 _ _ hq3
    clear hq3
    have hq3 := hq3'
    clear hq3'
    refine ⟨q3, q4, _, _, rfl, rfl, hq3, hq4, (by show 9 ≤ sizeLine; decide), fun q5 H19 nq5 t19 hq5 => ?_⟩
    have s19 := s18.trans t19
    have d19 := d18.same t19
    have h0' := h0.same t19
    clear h0
    have h0 := h0'
    clear h0'
    have h1' := h1.same t19
    clear h1
    have h1 := h1'
    clear h1'
    have h2' := h2.same t19
    clear h2
    have h2 := h2'
    clear h2'
    have h3' := h3.same t19
    clear h3
    have h3 := h3'
    clear h3'
    have h4' := h4.same t19
    clear h4
    have h4 := h4'
    clear h4'
    have h5' := h5.same t19
    clear h5
    have h5 := h5'
    clear h5'
    have h6' := h6.same t19
    clear h6
    have h6 := h6'
    clear h6'
    have h7' := h7.same t19
    clear h7
    have h7 := h7'
    clear h7'
    have h8' := h8.same t19
    clear h8
    have h8 := h8'
    clear h8'
    have hq3' := t19 _ _ hq3
    clear hq3
    have hq3 := hq3'
    clear hq3'
    have hq4' := t19 _ _ hq4
    clear hq4
    have hq4 := hq4'
    clear hq4'
    refine ⟨_, rfl, ?_⟩
    refine ⟨_, rfl, _, rfl, _, rfl, _, rfl, _, rfl, rfl, fun x dx hx hdx _ => ?_⟩
    have sx := same_new2 (C := Z.j 1) hx hdx
    refine ⟨x, dx, d.n2, d.f3, d.n1, d.f1, d.f2, d.t3, d.t1, d.t2, rfl, upd_same, d19.n2.nm, d19.n1.nm, d19.G3.same sx, d19.G1.same sx, d19.G2.same sx, fun H20 o h9 => ⟨rfl, ?_⟩⟩
    have t20 : Same H19 H20 := off_new hx sx o
    have s20 := s19.trans t20
    have d20 := d19.same t20
    clear sx o hx hdx
    have h0' := h0.same t20
    clear h0
    have h0 := h0'
    clear h0'
    have h1' := h1.same t20
    clear h1
    have h1 := h1'
    clear h1'
    have h2' := h2.same t20
    clear h2
    have h2 := h2'
    clear h2'
    have h3' := h3.same t20
    clear h3
    have h3 := h3'
    clear h3'
    have h4' := h4.same t20
    clear h4
    have h4 := h4'
    clear h4'
    have h5' := h5.same t20
    clear h5
    have h5 := h5'
    clear h5'
    have h6' := h6.same t20
    clear h6
    have h6 := h6'
    clear h6'
    have h7' := h7.same t20
    clear h7
    have h7 := h7'
    clear h7'
    have h8' := h8.same t20
    clear h8
    have h8 := h8'
    clear h8'
    have hq3' := t20 _ _ hq3
    clear hq3
    have hq3 := hq3'
    clear hq3'
    have hq4' := t20 _ _ hq4
    clear hq4
    have hq4 := hq4'
    clear hq4'
    have hq5' := t20 _ _ hq5
    clear hq5
    have hq5 := hq5'
    clear hq5'
    generalize hx9 : x = a9 at h9 ⊢
    clear hx9
    refine ⟨(by show 1 ≤ sizeLine; decide), fun q6 H21 nq6 t21 hq6 => ?_⟩
    have s21 := s20.trans t21
    have d21 := d20.same t21
    have h0' := h0.same t21
    clear h0
    have h0 := h0'
    clear h0'
    have h1' := h1.same t21
    clear h1
    have h1 := h1'
    clear h1'
    have h2' := h2.same t21
    clear h2
    have h2 := h2'
    clear h2'
    have h3' := h3.same t21
    clear h3
    have h3 := h3'
    clear h3'
    have h4' := h4.same t21
    clear h4
    have h4 := h4'
    clear h4'
    have h5' := h5.same t21
    clear h5
    have h5 := h5'
    clear h5'
    have h6' := h6.same t21
    clear h6
    have h6 := h6'
    clear h6'
    have h7' := h7.same t21
    clear h7
    have h7 := h7'
    clear h7'
    have h8' := h8.same t21
    clear h8
    have h8 := h8'
    clear h8'
    have h9' := h9.same t21
    clear h9
    have h9 := h9'
    clear h9'
    have hq3' := t21 _ _ hq3
    clear hq3
    have hq3 := hq3'
    clear hq3'
    have hq4' := t21 _ _ hq4
    clear hq4
    have hq4 := hq4'
    clear hq4'
    have hq5' := t21 _ _ hq5
    clear hq5
    have hq5 := hq5'
    clear hq5'
    refine ⟨q5, q6, _, _, rfl, rfl, hq5, hq6, (by show 10 ≤ sizeLine; decide), fun q7 H22 nq7 t22 hq7 => ?_⟩
    have s22 := s21.trans t22
    have d22 := d21.same t22
    have h0' := h0.same t22
    clear h0
    have h0 := h0'
    clear h0'
    have h1' := h1.same t22
    clear h1
    have h1 := h1'
    clear h1'
    have h2' := h2.same t22
    clear h2
    have h2 := h2'
    clear h2'
    have h3' := h3.same t22
    clear h3
    have h3 := h3'
    clear h3'
    have h4' := h4.same t22
    clear h4
    have h4 := h4'
    clear h4'
    have h5' := h5.same t22
    clear h5
    have h5 := h5'
    clear h5'
    have h6' := h6.same t22
    clear h6
    have h6 := h6'
    clear h6'
    have h7' := h7.same t22
    clear h7
    have h7 := h7'
    clear h7'
    have h8' := h8.same t22
    clear h8
    have h8 := h8'
    clear h8'
    have h9' := h9.same t22
    clear h9
    have h9 := h9'
    clear h9'
    have hq3' := t22 _ _ hq3
    clear hq3
    have hq3 := hq3'
    clear hq3'
    have hq4' := t22 _ _ hq4
    clear hq4
    have hq4 := hq4'
    clear hq4'
    have hq5' := t22 _ _ hq5
    clear hq5
    have hq5 := hq5'
    clear hq5'
    have hq6' := t22 _ _ hq6
    clear hq6
    have hq6 := hq6'
    clear hq6'
    refine k q7 H22 [a0, a1, a2, a3, a4, a5, a6, a7, a8, a9] s22 (s21.free nq7) hq7 ⟨rfl, fun s b e => ?_⟩
    match s, e with
    | 0, e =>
      cases e
      exact h0
    | 1, e =>
      cases e
      exact h1
    | 2, e =>
      cases e
      exact h2
    | 3, e =>
      cases e
      exact h3
    | 4, e =>
      cases e
      exact h4
    | 5, e =>
      cases e
      exact h5
    | 6, e =>
      cases e
      exact h6
    | 7, e =>
      cases e
      exact h7
    | 8, e =>
      cases e
      exact h8
    | 9, e =>
      cases e
      exact h9
    | s + 10, e => simp at e
end
end Lw

/-! ## StG -/
set_option maxHeartbeats 1000000
namespace Lw
open PySem PySem.Spec PyProof.Rows L2
open Fm (cf Asc Nm)
abbrev s__law_due : Stmt := topS 82
abbrev n__law_due : List Str := ["_law_tags", "_law_said", "_law_code", "_law_one", "_law_two", "_law_eff", "_law_gee", "_law_aitch", "_law_back", "_law_found", "_law_word", "_law_last"]
theorem sc__law_due : FnScope n__law_due ["_law_tags", "_law_said", "_law_code"] (defScope s__law_due) := ⟨rfl, rfl, rfl, by decide +kernel, rfl, by decide +kernel, by decide +kernel⟩
abbrev s__law_sorts : Stmt := topS 83
abbrev n__law_sorts : List Str := ["_law_made", "_law_found"]
theorem sc__law_sorts : FnScope n__law_sorts ["_law_made"] (defScope s__law_sorts) := ⟨rfl, rfl, rfl, by decide +kernel, rfl, by decide +kernel, by decide +kernel⟩
abbrev s__law_arguments : Stmt := topS 84
abbrev n__law_arguments : List Str := ["_law_made", "_law_spot"]
theorem sc__law_arguments : FnScope n__law_arguments ["_law_made", "_law_spot"] (defScope s__law_arguments) := ⟨rfl, rfl, rfl, by decide +kernel, rfl, by decide +kernel, by decide +kernel⟩
abbrev s__law_arguments_due : Stmt := topS 85
abbrev n__law_arguments_due : List Str := ["_law_tags", "_law_some", "_law_code", "_law_spot", "_law_one", "_law_two", "_law_eff", "_law_gee", "_law_aitch"]
theorem sc__law_arguments_due : FnScope n__law_arguments_due ["_law_tags", "_law_some", "_law_code", "_law_spot"] (defScope s__law_arguments_due) := ⟨rfl, rfl, rfl, by decide +kernel, rfl, by decide +kernel, by decide +kernel⟩
abbrev s__law_one_right : Stmt := topS 86
abbrev n__law_one_right : List Str := ["_law_made", "_law_line", "_law_spot", "_law_word", "_law_due_here", "_law_k"]
theorem sc__law_one_right : FnScope n__law_one_right ["_law_made", "_law_line", "_law_spot"] (defScope s__law_one_right) := ⟨rfl, rfl, rfl, by decide +kernel, rfl, by decide +kernel, by decide +kernel⟩
abbrev s__law_unlike : Stmt := topS 87
abbrev n__law_unlike : List Str := ["_law_made", "_law_line", "_law_other"]
theorem sc__law_unlike : FnScope n__law_unlike ["_law_made", "_law_line"] (defScope s__law_unlike) := ⟨rfl, rfl, rfl, by decide +kernel, rfl, by decide +kernel, by decide +kernel⟩
theorem ll_let : (Str.ofString "let ").length = 4 := by decide
theorem ll_b2 : (Str.ofString "] ").length = 2 := by decide
theorem ll_b3 : (Str.ofString "] (").length = 3 := by decide
theorem ll_rev : (Str.ofString "reverse ").length = 8 := by decide
theorem ll_swap : (Str.ofString "swap ").length = 5 := by decide
theorem ll_fill : (Str.ofString "fill ").length = 5 := by decide
theorem ll_res : (Str.ofString "resize ").length = 7 := by decide
theorem ll_copy : (Str.ofString "copy ").length = 5 := by decide
theorem ll_w1 : (Str.ofString "copy").length = 4 := by decide
theorem ll_w2 : (Str.ofString "up").length = 2 := by decide
theorem ll_w3 : (Str.ofString "down").length = 4 := by decide
theorem ll_w4 : (Str.ofString "apart").length = 5 := by decide
theorem tx_emp : TL.tl Str.empty = [] := rfl
theorem tx (s : String) (l : List Nat) (h : (Str.ofString s).cps.toList = l) : TL.tl (Str.ofString s) = l := h
theorem tx_let : TL.tl (Str.ofString "let ") = [108, 101, 116, 32] := by decide
theorem tx_b1 : TL.tl (Str.ofString "[") = [91] := by decide
theorem tx_cb : TL.tl (Str.ofString "]") = [93] := by decide
theorem tx_b2 : TL.tl (Str.ofString "] ") = [93, 32] := by decide
theorem tx_b3 : TL.tl (Str.ofString "] (") = [93, 32, 40] := by decide
theorem tx_sp : TL.tl (Str.ofString " ") = [32] := by decide
theorem tx_op : TL.tl (Str.ofString " (") = [32, 40] := by decide
theorem tx_cp : TL.tl (Str.ofString ")") = [41] := by decide
theorem tx_cs : TL.tl (Str.ofString ") ") = [41, 32] := by decide
theorem tx_eq : TL.tl (Str.ofString " = ") = [32, 61, 32] := by decide
theorem tx_rev : TL.tl (Str.ofString "reverse ") = [114, 101, 118, 101, 114, 115, 101, 32] := by decide
theorem tx_swap : TL.tl (Str.ofString "swap ") = [115, 119, 97, 112, 32] := by decide
theorem tx_fill : TL.tl (Str.ofString "fill ") = [102, 105, 108, 108, 32] := by decide
theorem tx_res : TL.tl (Str.ofString "resize ") = [114, 101, 115, 105, 122, 101, 32] := by decide
theorem tx_copy : TL.tl (Str.ofString "copy ") = [99, 111, 112, 121, 32] := by decide
theorem tw0 : TL.tl (wordK 0) = [108, 101, 116] := by decide
theorem tw1 : TL.tl (wordK 1) = [99, 111, 112, 121] := by decide
theorem tw5 : TL.tl (wordK 5) = [114, 101, 118, 101, 114, 115, 101] := by decide
theorem tw6 : TL.tl (wordK 6) = [115, 119, 97, 112] := by decide
theorem tw7 : TL.tl (wordK 7) = [102, 105, 108, 108] := by decide
theorem tw8 : TL.tl (wordK 8) = [114, 101, 115, 105, 122, 101] := by decide
def backS (d : Dt) : Str := ((((((((d.n1 ++ Str.ofString "[") ++ Fm.textS d.t1) ++ Str.ofString "] ") ++ d.n2) ++ Str.ofString "[") ++ Fm.textS d.t2) ++ Str.ofString "] (") ++ Fm.textS d.t3) ++ Str.ofString ")"
def lastS (d : Dt) : Str := ((((((((d.n2 ++ Str.ofString "[") ++ Fm.textS d.t3) ++ Str.ofString "] ") ++ d.n1) ++ Str.ofString "[") ++ Fm.textS d.t1) ++ Str.ofString "] (") ++ Fm.textS d.t2) ++ Str.ofString ")"
theorem due0 (d : Dt) : ((Str.ofString "let " ++ d.n1) ++ Str.ofString " = ") ++ Fm.textS d.t1 = lineOf d 0 := by
  show _ = lineLet d.n1 d.t1
  (apply Fm.str_ext; show TL.tl _ = TL.tl _; simp only [lineLet, lineMv, lineRev, lineFill, lineRes, atL, TL.tl_append, tx_emp, tx_let, tx_b1, tx_cb, tx_b2, tx_b3, tx_sp, tx_op, tx_cp, tx_cs, tx_eq, tx_rev, tx_swap, tx_fill, tx_res, tx_copy, tw0, tw1, tw5, tw6, tw7, tw8, List.append_assoc, List.cons_append, List.nil_append, List.append_nil])
theorem dueM (d : Dt) (w : Str) : (w ++ Str.ofString " ") ++ backS d = lineMv w d.n1 d.t1 d.n2 d.t2 d.t3 := by
  unfold backS
  (apply Fm.str_ext; show TL.tl _ = TL.tl _; simp only [lineLet, lineMv, lineRev, lineFill, lineRes, atL, TL.tl_append, tx_emp, tx_let, tx_b1, tx_cb, tx_b2, tx_b3, tx_sp, tx_op, tx_cp, tx_cs, tx_eq, tx_rev, tx_swap, tx_fill, tx_res, tx_copy, tw0, tw1, tw5, tw6, tw7, tw8, List.append_assoc, List.cons_append, List.nil_append, List.append_nil])
theorem due5 (d : Dt) : (((((Str.ofString "reverse " ++ d.n1) ++ Str.ofString "[") ++ Fm.textS d.t2) ++ Str.ofString "] (") ++ Fm.textS d.t3) ++ Str.ofString ")" = lineOf d 5 := by
  show _ = lineRev (wordK 5) d.n1 d.t2 d.t3
  (apply Fm.str_ext; show TL.tl _ = TL.tl _; simp only [lineLet, lineMv, lineRev, lineFill, lineRes, atL, TL.tl_append, tx_emp, tx_let, tx_b1, tx_cb, tx_b2, tx_b3, tx_sp, tx_op, tx_cp, tx_cs, tx_eq, tx_rev, tx_swap, tx_fill, tx_res, tx_copy, tw0, tw1, tw5, tw6, tw7, tw8, List.append_assoc, List.cons_append, List.nil_append, List.append_nil])
theorem due6 (d : Dt) : Str.ofString "swap " ++ backS d = lineOf d 6 := by
  show _ = lineMv (wordK 6) d.n1 d.t1 d.n2 d.t2 d.t3
  unfold backS
  (apply Fm.str_ext; show TL.tl _ = TL.tl _; simp only [lineLet, lineMv, lineRev, lineFill, lineRes, atL, TL.tl_append, tx_emp, tx_let, tx_b1, tx_cb, tx_b2, tx_b3, tx_sp, tx_op, tx_cp, tx_cs, tx_eq, tx_rev, tx_swap, tx_fill, tx_res, tx_copy, tw0, tw1, tw5, tw6, tw7, tw8, List.append_assoc, List.cons_append, List.nil_append, List.append_nil])
theorem due7 (d : Dt) : ((((((Str.ofString "fill " ++ d.n1) ++ Str.ofString "[") ++ Fm.textS d.t2) ++ Str.ofString "] (") ++ Fm.textS d.t3) ++ Str.ofString ") ") ++ Str.ofString (toString d.i) = lineOf d 7 := by
  show _ = lineFill d.n1 d.t2 d.t3 d.i
  (apply Fm.str_ext; show TL.tl _ = TL.tl _; simp only [lineLet, lineMv, lineRev, lineFill, lineRes, atL, TL.tl_append, tx_emp, tx_let, tx_b1, tx_cb, tx_b2, tx_b3, tx_sp, tx_op, tx_cp, tx_cs, tx_eq, tx_rev, tx_swap, tx_fill, tx_res, tx_copy, tw0, tw1, tw5, tw6, tw7, tw8, List.append_assoc, List.cons_append, List.nil_append, List.append_nil])
theorem due8 (d : Dt) : (((Str.ofString "resize " ++ d.n1) ++ Str.ofString " (") ++ Fm.textS d.t1) ++ Str.ofString ")" = lineOf d 8 := by
  show _ = lineRes d.n1 d.t1
  (apply Fm.str_ext; show TL.tl _ = TL.tl _; simp only [lineLet, lineMv, lineRev, lineFill, lineRes, atL, TL.tl_append, tx_emp, tx_let, tx_b1, tx_cb, tx_b2, tx_b3, tx_sp, tx_op, tx_cp, tx_cs, tx_eq, tx_rev, tx_swap, tx_fill, tx_res, tx_copy, tw0, tw1, tw5, tw6, tw7, tw8, List.append_assoc, List.cons_append, List.nil_append, List.append_nil])
theorem due9 (d : Dt) : Str.ofString "copy " ++ lastS d = lineOf d 9 := by
  show _ = lineMv (wordK 1) d.n2 d.t3 d.n1 d.t1 d.t2
  unfold lastS
  (apply Fm.str_ext; show TL.tl _ = TL.tl _; simp only [lineLet, lineMv, lineRev, lineFill, lineRes, atL, TL.tl_append, tx_emp, tx_let, tx_b1, tx_cb, tx_b2, tx_b3, tx_sp, tx_op, tx_cp, tx_cs, tx_eq, tx_rev, tx_swap, tx_fill, tx_res, tx_copy, tw0, tw1, tw5, tw6, tw7, tw8, List.append_assoc, List.cons_append, List.nil_append, List.append_nil])
def dueL (d : Dt) : List Str := [lineOf d 0, lineOf d 1, lineOf d 2, lineOf d 3, lineOf d 4, lineOf d 5, lineOf d 6, lineOf d 7, lineOf d 8, lineOf d 9]
/-- the data alone -/
structure DtT (d : Dt) : Prop where
  n1 : Na d.n1
  n2 : Na d.n2
  t1 : NT d.t1
  t2 : NT d.t2
  t3 : NT d.t3
  i : d.i.natAbs < 2 ^ 200
theorem DtOk.t {Z : Sz} {H : Hp} {d : Dt} (h : DtOk Z H d) : DtT d := ⟨h.n1, h.n2, h.t1, h.t2, h.t3, h.i⟩
theorem NT.tl {ts : Tms} (h : NT ts) : (Fm.textS ts).length ≤ 231610 := Nat.le_trans (text_len h.bd h.rd.sy) (by decide)
def spDue (K : PySem.W.Frag) : Sp := fun vs H Q _ => ∃ (p1 p2 : Addr) (d : Dt), vs = [.ref p1, .ref p2, .int d.i] ∧ H p1 = some (.lst [.str d.n1, .str d.n2]) ∧ H p2 = some (.lst [.str (Fm.textS d.t1), .str (Fm.textS d.t2), .str (Fm.textS d.t3)]) ∧ DtT d ∧
  ∀ r H', Same H H' → H r = none → H' r = some (.lst ((dueL d).map V.str)) → Q (.ref r) H'
section
variable {P : Program} {w : World} {K : PySem.W.Frag} {mg : Str → Option Value} {base : Heap} {Z : Sz}
theorem ok_law_due {f : Addr} {fd : FuncData} (F : Fun K "_law_due" "_law_due" s__law_due f fd) (T : Ta mg) : FnG P w K mg base 1 f fd ["_law_tags", "_law_said", "_law_code"] (spDue K) := by
  refine okG F sc__law_due (fun vs H Q E h => ?_) (fun cdv A outer s H vs Q hr h => ?_)
  · obtain ⟨p1, p2, d, rfl, _⟩ := h
    rfl
  · obtain ⟨p1, p2, d, rfl, h1, h2, dk, k⟩ := h
    refine ⟨_, (pss_cons (ps_asg (pe_tupS (pa_cons (pe_ix ix_list (pv 0) pe_int (fun _ _ => rfl)) (pa_cons (pe_ix ix_list (pv 0) pe_int (fun _ _ => rfl)) (pa_cons (pv 1) pa_nil)))) (pg_tup rfl (pgs_cons (pg_name (i := 3) sc__law_due.nd rfl (by first | exact .inl rfl | exact .inr rfl)) (pgs_cons (pg_name (i := 4) sc__law_due.nd rfl (by first | exact .inl rfl | exact .inr rfl)) (pgs_cons (pg_unl rfl (pgs_cons (pg_name (i := 5) sc__law_due.nd rfl (by first | exact .inl rfl | exact .inr rfl)) (pgs_cons (pg_name (i := 6) sc__law_due.nd rfl (by first | exact .inl rfl | exact .inr rfl)) (pgs_cons (pg_name (i := 7) sc__law_due.nd rfl (by first | exact .inl rfl | exact .inr rfl)) pgs_nil)))) pgs_nil)))))
  (pss_cons (ps_set (i := 8) sc__law_due.nd rfl (by first | exact .inl rfl | exact .inr rfl) (pe_op op_add_str (pe_op op_add_str (pe_op op_add_str (pe_op op_add_str (pe_op op_add_str (pe_op op_add_str (pe_op op_add_str (pe_op op_add_str (pe_op op_add_str (pv 3) pe_str) (pv 5)) pe_str) (pv 4)) pe_str) (pv 6)) pe_str) (pv 7)) pe_str))
  (pss_cons (ps_set (i := 9) sc__law_due.nd rfl (by first | exact .inl rfl | exact .inr rfl) (pe_op op_catS (pe_lstS (pa_cons (pe_op op_add_str (pe_op op_add_str (pe_op op_add_str pe_str (pv 3)) pe_str) (pv 5)) pa_nil)) (pe_lc (own := [("_law_word", 10)]) (g := gName 10) (tt := tYes) rfl sc__law_due.nd (pi_list (pe_lstS (pa_cons pe_str (pa_cons pe_str (pa_cons pe_str (pa_cons pe_str pa_nil)))))) (blkOk_by (own := [("_law_word", 10)]) (N := n__law_due) (sc := defScope s__law_due) (by decide +kernel)) (fun _ _ _ _ _ => pg_name (i := 10) sc__law_due.nd rfl (Or.inl rfl)) (fun _ _ _ _ _ => pts_nil) (fun _ _ _ _ _ => (pe_op op_add_str (pe_op op_add_str (pv 10) pe_str) (pv 8))))))
  (pss_cons (ps_set (i := 9) sc__law_due.nd rfl (by first | exact .inl rfl | exact .inr rfl) (pe_op op_catS (pv 9) (pe_lstS (pa_cons (pe_op op_add_str (pe_op op_add_str (pe_op op_add_str (pe_op op_add_str (pe_op op_add_str (pe_op op_add_str pe_str (pv 3)) pe_str) (pv 6)) pe_str) (pv 7)) pe_str) (pa_cons (pe_op op_add_str pe_str (pv 8)) pa_nil)))))
  (pss_cons (ps_expr (pe_bm PySem.F.plainAttrs_list PySem.F.slot_list_append PySem.F.type_list_append mt_append (pv 9) (pa_cons (pe_op op_add_str (pe_op op_add_str (pe_op op_add_str (pe_op op_add_str (pe_op op_add_str (pe_op op_add_str (pe_op op_add_str pe_str (pv 3)) pe_str) (pv 6)) pe_str) (pv 7)) pe_str) (pe_callTy call_str_int (by rfl) T.b_str (by decide +kernel) (pa_cons (pv 2) pa_nil))) pa_nil)))
  (pss_cons (ps_set (i := 11) sc__law_due.nd rfl (by first | exact .inl rfl | exact .inr rfl) (pe_op op_add_str (pe_op op_add_str (pe_op op_add_str (pe_op op_add_str (pe_op op_add_str (pe_op op_add_str (pe_op op_add_str (pe_op op_add_str (pe_op op_add_str (pv 4) pe_str) (pv 7)) pe_str) (pv 3)) pe_str) (pv 5)) pe_str) (pv 6)) pe_str))
  (pss_one (ps_ret (pe_op op_catS (pv 9) (pe_lstS (pa_cons (pe_op op_add_str (pe_op op_add_str (pe_op op_add_str (pe_op op_add_str pe_str (pv 3)) pe_str) (pv 5)) pe_str) (pa_cons (pe_op op_add_str pe_str (pv 11)) pa_nil)))))))))))), ?_⟩
    have x1 := dk.t1.tl
    have x2 := dk.t2.tl
    have x3 := dk.t3.tl
    have y1 := dk.n1.len
    have y2 := dk.n2.len
    refine ⟨_, rfl, p1, _, 0, _, rfl, rfl, SqL.of h1, L2.atI_nat (j := 0) rfl, _, rfl, p1, _, 1, _, rfl, rfl, SqL.of h1, L2.atI_nat (j := 1) rfl, _, rfl, (by show 3 ≤ sizeLine; decide), fun q H1 nq s1 hq => ?_⟩
    refine ⟨q, _, rfl, SqT.of hq, rfl, _, _, rfl, _, _, rfl, _, _, rfl, p2, _, rfl, SqL.of (s1 _ _ h2), rfl, _, _, rfl, _, _, rfl, _, _, rfl, rfl, rfl, ?_⟩
    refine ⟨_, rfl, _, _, rfl, rfl, by (refine Nat.le_trans ?_ (show 1000000 ≤ sizeLine by decide); (try simp only [strLen_append, emp_len, l_sp, l_ob, l_cb, l_op, l_cp, l_cs, l_eq, l_st, ll_let, ll_b2, ll_b3, ll_rev, ll_swap, ll_fill, ll_res, ll_copy, ll_w1, ll_w2, ll_w3, ll_w4]); omega), _, rfl, _, _, rfl, rfl, by (refine Nat.le_trans ?_ (show 1000000 ≤ sizeLine by decide); (try simp only [strLen_append, emp_len, l_sp, l_ob, l_cb, l_op, l_cp, l_cs, l_eq, l_st, ll_let, ll_b2, ll_b3, ll_rev, ll_swap, ll_fill, ll_res, ll_copy, ll_w1, ll_w2, ll_w3, ll_w4]); omega), _, _, rfl, rfl, by (refine Nat.le_trans ?_ (show 1000000 ≤ sizeLine by decide); (try simp only [strLen_append, emp_len, l_sp, l_ob, l_cb, l_op, l_cp, l_cs, l_eq, l_st, ll_let, ll_b2, ll_b3, ll_rev, ll_swap, ll_fill, ll_res, ll_copy, ll_w1, ll_w2, ll_w3, ll_w4]); omega), _, rfl, _, _, rfl, rfl, by (refine Nat.le_trans ?_ (show 1000000 ≤ sizeLine by decide); (try simp only [strLen_append, emp_len, l_sp, l_ob, l_cb, l_op, l_cp, l_cs, l_eq, l_st, ll_let, ll_b2, ll_b3, ll_rev, ll_swap, ll_fill, ll_res, ll_copy, ll_w1, ll_w2, ll_w3, ll_w4]); omega), _, _, rfl, rfl, by (refine Nat.le_trans ?_ (show 1000000 ≤ sizeLine by decide); (try simp only [strLen_append, emp_len, l_sp, l_ob, l_cb, l_op, l_cp, l_cs, l_eq, l_st, ll_let, ll_b2, ll_b3, ll_rev, ll_swap, ll_fill, ll_res, ll_copy, ll_w1, ll_w2, ll_w3, ll_w4]); omega), _, rfl, _, _, rfl, rfl, by (refine Nat.le_trans ?_ (show 1000000 ≤ sizeLine by decide); (try simp only [strLen_append, emp_len, l_sp, l_ob, l_cb, l_op, l_cp, l_cs, l_eq, l_st, ll_let, ll_b2, ll_b3, ll_rev, ll_swap, ll_fill, ll_res, ll_copy, ll_w1, ll_w2, ll_w3, ll_w4]); omega), _, _, rfl, rfl, by (refine Nat.le_trans ?_ (show 1000000 ≤ sizeLine by decide); (try simp only [strLen_append, emp_len, l_sp, l_ob, l_cb, l_op, l_cp, l_cs, l_eq, l_st, ll_let, ll_b2, ll_b3, ll_rev, ll_swap, ll_fill, ll_res, ll_copy, ll_w1, ll_w2, ll_w3, ll_w4]); omega), _, rfl, _, _, rfl, rfl, by (refine Nat.le_trans ?_ (show 1000000 ≤ sizeLine by decide); (try simp only [strLen_append, emp_len, l_sp, l_ob, l_cb, l_op, l_cp, l_cs, l_eq, l_st, ll_let, ll_b2, ll_b3, ll_rev, ll_swap, ll_fill, ll_res, ll_copy, ll_w1, ll_w2, ll_w3, ll_w4]); omega), _, _, rfl, rfl, by (refine Nat.le_trans ?_ (show 1000000 ≤ sizeLine by decide); (try simp only [strLen_append, emp_len, l_sp, l_ob, l_cb, l_op, l_cp, l_cs, l_eq, l_st, ll_let, ll_b2, ll_b3, ll_rev, ll_swap, ll_fill, ll_res, ll_copy, ll_w1, ll_w2, ll_w3, ll_w4]); omega), ?_⟩
    generalize hB : (((((((((d.n1 ++ Str.ofString "[") ++ Fm.textS d.t1) ++ Str.ofString "] ") ++ d.n2) ++ Str.ofString "[") ++ Fm.textS d.t2) ++ Str.ofString "] (") ++ Fm.textS d.t3) ++ Str.ofString ")") = B
    have lB : B.length ≤ 700000 := by
      rw [← hB]
      simp only [strLen_append, l_ob, l_cp, ll_b2, ll_b3]
      omega
    have eB : backS d = B := hB
    clear hB
    refine ⟨_, rfl, _, _, rfl, rfl, by (refine Nat.le_trans ?_ (show 1000000 ≤ sizeLine by decide); (try simp only [strLen_append, emp_len, l_sp, l_ob, l_cb, l_op, l_cp, l_cs, l_eq, l_st, ll_let, ll_b2, ll_b3, ll_rev, ll_swap, ll_fill, ll_res, ll_copy, ll_w1, ll_w2, ll_w3, ll_w4]); omega), _, _, rfl, rfl, by (refine Nat.le_trans ?_ (show 1000000 ≤ sizeLine by decide); (try simp only [strLen_append, emp_len, l_sp, l_ob, l_cb, l_op, l_cp, l_cs, l_eq, l_st, ll_let, ll_b2, ll_b3, ll_rev, ll_swap, ll_fill, ll_res, ll_copy, ll_w1, ll_w2, ll_w3, ll_w4]); omega), _, rfl, _, _, rfl, rfl, by (refine Nat.le_trans ?_ (show 1000000 ≤ sizeLine by decide); (try simp only [strLen_append, emp_len, l_sp, l_ob, l_cb, l_op, l_cp, l_cs, l_eq, l_st, ll_let, ll_b2, ll_b3, ll_rev, ll_swap, ll_fill, ll_res, ll_copy, ll_w1, ll_w2, ll_w3, ll_w4]); omega), (by show 1 ≤ sizeLine; decide), fun q1 H2 n1 s2 hq1 => ?_⟩
    refine ⟨(by show 4 ≤ sizeLine; decide), fun q2 H3 n2 s3 hq2 => ⟨q2, rfl, ⟨_, SqL.of hq2⟩, fun D hD => lc_fn walk_list (fun j => .str (lineOf d (j + 1))) (by decide) hD (fun H' s' => SqL.of (s' _ _ hq2)) (fun j x H6 H7 Q' hj s6 y kq => ?_) fun H4 s4 hd => ?_⟩⟩
    · obtain ⟨rfl, hx⟩ := y
      match j, hj, hx with
      | 0, _, hx =>
        cases hx
        have kq : Q' (.str (lineMv (Str.ofString "copy") d.n1 d.t1 d.n2 d.t2 d.t3)) H7 := kq _ (Same.refl _)
        rw [← dueM, eB] at kq
        exact ⟨rfl, _, rfl, _, _, rfl, rfl, by (refine Nat.le_trans ?_ (show 1000000 ≤ sizeLine by decide); (try simp only [strLen_append, emp_len, l_sp, l_ob, l_cb, l_op, l_cp, l_cs, l_eq, l_st, ll_let, ll_b2, ll_b3, ll_rev, ll_swap, ll_fill, ll_res, ll_copy, ll_w1, ll_w2, ll_w3, ll_w4]); omega), _, rfl, _, _, rfl, rfl, by (refine Nat.le_trans ?_ (show 1000000 ≤ sizeLine by decide); (try simp only [strLen_append, emp_len, l_sp, l_ob, l_cb, l_op, l_cp, l_cs, l_eq, l_st, ll_let, ll_b2, ll_b3, ll_rev, ll_swap, ll_fill, ll_res, ll_copy, ll_w1, ll_w2, ll_w3, ll_w4]); omega), kq⟩
      | 1, _, hx =>
        cases hx
        have kq : Q' (.str (lineMv (Str.ofString "up") d.n1 d.t1 d.n2 d.t2 d.t3)) H7 := kq _ (Same.refl _)
        rw [← dueM, eB] at kq
        exact ⟨rfl, _, rfl, _, _, rfl, rfl, by (refine Nat.le_trans ?_ (show 1000000 ≤ sizeLine by decide); (try simp only [strLen_append, emp_len, l_sp, l_ob, l_cb, l_op, l_cp, l_cs, l_eq, l_st, ll_let, ll_b2, ll_b3, ll_rev, ll_swap, ll_fill, ll_res, ll_copy, ll_w1, ll_w2, ll_w3, ll_w4]); omega), _, rfl, _, _, rfl, rfl, by (refine Nat.le_trans ?_ (show 1000000 ≤ sizeLine by decide); (try simp only [strLen_append, emp_len, l_sp, l_ob, l_cb, l_op, l_cp, l_cs, l_eq, l_st, ll_let, ll_b2, ll_b3, ll_rev, ll_swap, ll_fill, ll_res, ll_copy, ll_w1, ll_w2, ll_w3, ll_w4]); omega), kq⟩
      | 2, _, hx =>
        cases hx
        have kq : Q' (.str (lineMv (Str.ofString "down") d.n1 d.t1 d.n2 d.t2 d.t3)) H7 := kq _ (Same.refl _)
        rw [← dueM, eB] at kq
        exact ⟨rfl, _, rfl, _, _, rfl, rfl, by (refine Nat.le_trans ?_ (show 1000000 ≤ sizeLine by decide); (try simp only [strLen_append, emp_len, l_sp, l_ob, l_cb, l_op, l_cp, l_cs, l_eq, l_st, ll_let, ll_b2, ll_b3, ll_rev, ll_swap, ll_fill, ll_res, ll_copy, ll_w1, ll_w2, ll_w3, ll_w4]); omega), _, rfl, _, _, rfl, rfl, by (refine Nat.le_trans ?_ (show 1000000 ≤ sizeLine by decide); (try simp only [strLen_append, emp_len, l_sp, l_ob, l_cb, l_op, l_cp, l_cs, l_eq, l_st, ll_let, ll_b2, ll_b3, ll_rev, ll_swap, ll_fill, ll_res, ll_copy, ll_w1, ll_w2, ll_w3, ll_w4]); omega), kq⟩
      | 3, _, hx =>
        cases hx
        have kq : Q' (.str (lineMv (Str.ofString "apart") d.n1 d.t1 d.n2 d.t2 d.t3)) H7 := kq _ (Same.refl _)
        rw [← dueM, eB] at kq
        exact ⟨rfl, _, rfl, _, _, rfl, rfl, by (refine Nat.le_trans ?_ (show 1000000 ≤ sizeLine by decide); (try simp only [strLen_append, emp_len, l_sp, l_ob, l_cb, l_op, l_cp, l_cs, l_eq, l_st, ll_let, ll_b2, ll_b3, ll_rev, ll_swap, ll_fill, ll_res, ll_copy, ll_w1, ll_w2, ll_w3, ll_w4]); omega), _, rfl, _, _, rfl, rfl, by (refine Nat.le_trans ?_ (show 1000000 ≤ sizeLine by decide); (try simp only [strLen_append, emp_len, l_sp, l_ob, l_cb, l_op, l_cp, l_cs, l_eq, l_st, ll_let, ll_b2, ll_b3, ll_rev, ll_swap, ll_fill, ll_res, ll_copy, ll_w1, ll_w2, ll_w3, ll_w4]); omega), kq⟩
    · have hD4 : H4 D = some (.lst [V.str (lineOf d 1), V.str (lineOf d 2), V.str (lineOf d 3), V.str (lineOf d 4)]) := hd
      have hq14 := s4 _ _ (s3 _ _ hq1)
      have sA : Same H H4 := ((s1.trans s2).trans s3).trans s4
      rw [due0] at hq14
      refine ⟨q1, D, _, _, rfl, rfl, hq14, hD4, (by show 5 ≤ sizeLine; decide), fun q3 H5 n5 s5 h5 => ?_⟩
      have sB := sA.trans s5
      refine ⟨_, rfl, _, rfl, _, _, rfl, rfl, by (refine Nat.le_trans ?_ (show 1000000 ≤ sizeLine by decide); (try simp only [strLen_append, emp_len, l_sp, l_ob, l_cb, l_op, l_cp, l_cs, l_eq, l_st, ll_let, ll_b2, ll_b3, ll_rev, ll_swap, ll_fill, ll_res, ll_copy, ll_w1, ll_w2, ll_w3, ll_w4]); omega), _, _, rfl, rfl, by (refine Nat.le_trans ?_ (show 1000000 ≤ sizeLine by decide); (try simp only [strLen_append, emp_len, l_sp, l_ob, l_cb, l_op, l_cp, l_cs, l_eq, l_st, ll_let, ll_b2, ll_b3, ll_rev, ll_swap, ll_fill, ll_res, ll_copy, ll_w1, ll_w2, ll_w3, ll_w4]); omega), _, rfl, _, _, rfl, rfl, by (refine Nat.le_trans ?_ (show 1000000 ≤ sizeLine by decide); (try simp only [strLen_append, emp_len, l_sp, l_ob, l_cb, l_op, l_cp, l_cs, l_eq, l_st, ll_let, ll_b2, ll_b3, ll_rev, ll_swap, ll_fill, ll_res, ll_copy, ll_w1, ll_w2, ll_w3, ll_w4]); omega), _, _, rfl, rfl, by (refine Nat.le_trans ?_ (show 1000000 ≤ sizeLine by decide); (try simp only [strLen_append, emp_len, l_sp, l_ob, l_cb, l_op, l_cp, l_cs, l_eq, l_st, ll_let, ll_b2, ll_b3, ll_rev, ll_swap, ll_fill, ll_res, ll_copy, ll_w1, ll_w2, ll_w3, ll_w4]); omega), _, rfl, _, _, rfl, rfl, by (refine Nat.le_trans ?_ (show 1000000 ≤ sizeLine by decide); (try simp only [strLen_append, emp_len, l_sp, l_ob, l_cb, l_op, l_cp, l_cs, l_eq, l_st, ll_let, ll_b2, ll_b3, ll_rev, ll_swap, ll_fill, ll_res, ll_copy, ll_w1, ll_w2, ll_w3, ll_w4]); omega), _, _, rfl, rfl, by (refine Nat.le_trans ?_ (show 1000000 ≤ sizeLine by decide); (try simp only [strLen_append, emp_len, l_sp, l_ob, l_cb, l_op, l_cp, l_cs, l_eq, l_st, ll_let, ll_b2, ll_b3, ll_rev, ll_swap, ll_fill, ll_res, ll_copy, ll_w1, ll_w2, ll_w3, ll_w4]); omega), _, rfl, _, _, rfl, rfl, by (refine Nat.le_trans ?_ (show 1000000 ≤ sizeLine by decide); (try simp only [strLen_append, emp_len, l_sp, l_ob, l_cb, l_op, l_cp, l_cs, l_eq, l_st, ll_let, ll_b2, ll_b3, ll_rev, ll_swap, ll_fill, ll_res, ll_copy, ll_w1, ll_w2, ll_w3, ll_w4]); omega), (by show 2 ≤ sizeLine; decide), fun q4 H8 n8 s8 h8 => ?_⟩
      rw [due5, ← eB, due6] at h8
      have sC := sB.trans s8
      refine ⟨q3, q4, _, _, rfl, rfl, s8 _ _ h5, h8, (by show 7 ≤ sizeLine; decide), fun q5 H9 n9 s9 h9 => ?_⟩
      have sD := sC.trans s9
      have nq5 : H q5 = none := sC.free n9
      have il := ilen dk.i
      refine ⟨_, rfl, .inl ⟨rfl, _, SqL.of h9⟩, _, rfl, _, _, rfl, rfl, by (refine Nat.le_trans ?_ (show 1000000 ≤ sizeLine by decide); (try simp only [strLen_append, emp_len, l_sp, l_ob, l_cb, l_op, l_cp, l_cs, l_eq, l_st, ll_let, ll_b2, ll_b3, ll_rev, ll_swap, ll_fill, ll_res, ll_copy, ll_w1, ll_w2, ll_w3, ll_w4]); omega), _, _, rfl, rfl, by (refine Nat.le_trans ?_ (show 1000000 ≤ sizeLine by decide); (try simp only [strLen_append, emp_len, l_sp, l_ob, l_cb, l_op, l_cp, l_cs, l_eq, l_st, ll_let, ll_b2, ll_b3, ll_rev, ll_swap, ll_fill, ll_res, ll_copy, ll_w1, ll_w2, ll_w3, ll_w4]); omega), _, rfl, _, _, rfl, rfl, by (refine Nat.le_trans ?_ (show 1000000 ≤ sizeLine by decide); (try simp only [strLen_append, emp_len, l_sp, l_ob, l_cb, l_op, l_cp, l_cs, l_eq, l_st, ll_let, ll_b2, ll_b3, ll_rev, ll_swap, ll_fill, ll_res, ll_copy, ll_w1, ll_w2, ll_w3, ll_w4]); omega), _, _, rfl, rfl, by (refine Nat.le_trans ?_ (show 1000000 ≤ sizeLine by decide); (try simp only [strLen_append, emp_len, l_sp, l_ob, l_cb, l_op, l_cp, l_cs, l_eq, l_st, ll_let, ll_b2, ll_b3, ll_rev, ll_swap, ll_fill, ll_res, ll_copy, ll_w1, ll_w2, ll_w3, ll_w4]); omega), _, rfl, _, _, rfl, rfl, by (refine Nat.le_trans ?_ (show 1000000 ≤ sizeLine by decide); (try simp only [strLen_append, emp_len, l_sp, l_ob, l_cb, l_op, l_cp, l_cs, l_eq, l_st, ll_let, ll_b2, ll_b3, ll_rev, ll_swap, ll_fill, ll_res, ll_copy, ll_w1, ll_w2, ll_w3, ll_w4]); omega), _, _, rfl, rfl, by (refine Nat.le_trans ?_ (show 1000000 ≤ sizeLine by decide); (try simp only [strLen_append, emp_len, l_sp, l_ob, l_cb, l_op, l_cp, l_cs, l_eq, l_st, ll_let, ll_b2, ll_b3, ll_rev, ll_swap, ll_fill, ll_res, ll_copy, ll_w1, ll_w2, ll_w3, ll_w4]); omega), _, rfl, _, rfl, ilog dk.i, _, _, rfl, rfl, by (refine Nat.le_trans ?_ (show 1000000 ≤ sizeLine by decide); (try simp only [strLen_append, emp_len, l_sp, l_ob, l_cb, l_op, l_cp, l_cs, l_eq, l_st, ll_let, ll_b2, ll_b3, ll_rev, ll_swap, ll_fill, ll_res, ll_copy, ll_w1, ll_w2, ll_w3, ll_w4]); omega), q5, _, _, rfl, rfl, h9, (by show 7 < sizeLine; decide), ?_⟩
      rw [due7]
      have sE := same_put (o := .lst ([V.str (lineOf d 0), V.str (lineOf d 1), V.str (lineOf d 2), V.str (lineOf d 3), V.str (lineOf d 4), V.str (lineOf d 5), V.str (lineOf d 6)] ++ [V.str (lineOf d 7)])) sD nq5
      have hE : (upd H9 q5 (.lst ([V.str (lineOf d 0), V.str (lineOf d 1), V.str (lineOf d 2), V.str (lineOf d 3), V.str (lineOf d 4), V.str (lineOf d 5), V.str (lineOf d 6)] ++ [V.str (lineOf d 7)]))) q5 = some (.lst ([V.str (lineOf d 0), V.str (lineOf d 1), V.str (lineOf d 2), V.str (lineOf d 3), V.str (lineOf d 4), V.str (lineOf d 5), V.str (lineOf d 6)] ++ [V.str (lineOf d 7)])) := upd_same
      refine ⟨_, rfl, _, _, rfl, rfl, by (refine Nat.le_trans ?_ (show 1000000 ≤ sizeLine by decide); (try simp only [strLen_append, emp_len, l_sp, l_ob, l_cb, l_op, l_cp, l_cs, l_eq, l_st, ll_let, ll_b2, ll_b3, ll_rev, ll_swap, ll_fill, ll_res, ll_copy, ll_w1, ll_w2, ll_w3, ll_w4]); omega), _, rfl, _, _, rfl, rfl, by (refine Nat.le_trans ?_ (show 1000000 ≤ sizeLine by decide); (try simp only [strLen_append, emp_len, l_sp, l_ob, l_cb, l_op, l_cp, l_cs, l_eq, l_st, ll_let, ll_b2, ll_b3, ll_rev, ll_swap, ll_fill, ll_res, ll_copy, ll_w1, ll_w2, ll_w3, ll_w4]); omega), _, _, rfl, rfl, by (refine Nat.le_trans ?_ (show 1000000 ≤ sizeLine by decide); (try simp only [strLen_append, emp_len, l_sp, l_ob, l_cb, l_op, l_cp, l_cs, l_eq, l_st, ll_let, ll_b2, ll_b3, ll_rev, ll_swap, ll_fill, ll_res, ll_copy, ll_w1, ll_w2, ll_w3, ll_w4]); omega), _, rfl, _, _, rfl, rfl, by (refine Nat.le_trans ?_ (show 1000000 ≤ sizeLine by decide); (try simp only [strLen_append, emp_len, l_sp, l_ob, l_cb, l_op, l_cp, l_cs, l_eq, l_st, ll_let, ll_b2, ll_b3, ll_rev, ll_swap, ll_fill, ll_res, ll_copy, ll_w1, ll_w2, ll_w3, ll_w4]); omega), _, _, rfl, rfl, by (refine Nat.le_trans ?_ (show 1000000 ≤ sizeLine by decide); (try simp only [strLen_append, emp_len, l_sp, l_ob, l_cb, l_op, l_cp, l_cs, l_eq, l_st, ll_let, ll_b2, ll_b3, ll_rev, ll_swap, ll_fill, ll_res, ll_copy, ll_w1, ll_w2, ll_w3, ll_w4]); omega), _, rfl, _, _, rfl, rfl, by (refine Nat.le_trans ?_ (show 1000000 ≤ sizeLine by decide); (try simp only [strLen_append, emp_len, l_sp, l_ob, l_cb, l_op, l_cp, l_cs, l_eq, l_st, ll_let, ll_b2, ll_b3, ll_rev, ll_swap, ll_fill, ll_res, ll_copy, ll_w1, ll_w2, ll_w3, ll_w4]); omega), _, _, rfl, rfl, by (refine Nat.le_trans ?_ (show 1000000 ≤ sizeLine by decide); (try simp only [strLen_append, emp_len, l_sp, l_ob, l_cb, l_op, l_cp, l_cs, l_eq, l_st, ll_let, ll_b2, ll_b3, ll_rev, ll_swap, ll_fill, ll_res, ll_copy, ll_w1, ll_w2, ll_w3, ll_w4]); omega), _, rfl, _, _, rfl, rfl, by (refine Nat.le_trans ?_ (show 1000000 ≤ sizeLine by decide); (try simp only [strLen_append, emp_len, l_sp, l_ob, l_cb, l_op, l_cp, l_cs, l_eq, l_st, ll_let, ll_b2, ll_b3, ll_rev, ll_swap, ll_fill, ll_res, ll_copy, ll_w1, ll_w2, ll_w3, ll_w4]); omega), _, _, rfl, rfl, by (refine Nat.le_trans ?_ (show 1000000 ≤ sizeLine by decide); (try simp only [strLen_append, emp_len, l_sp, l_ob, l_cb, l_op, l_cp, l_cs, l_eq, l_st, ll_let, ll_b2, ll_b3, ll_rev, ll_swap, ll_fill, ll_res, ll_copy, ll_w1, ll_w2, ll_w3, ll_w4]); omega), ?_⟩
      generalize hB2 : (((((((((d.n2 ++ Str.ofString "[") ++ Fm.textS d.t3) ++ Str.ofString "] ") ++ d.n1) ++ Str.ofString "[") ++ Fm.textS d.t1) ++ Str.ofString "] (") ++ Fm.textS d.t2) ++ Str.ofString ")") = B2
      have lB2 : B2.length ≤ 700000 := by
        rw [← hB2]
        simp only [strLen_append, l_ob, l_cp, ll_b2, ll_b3]
        omega
      have eB2 : lastS d = B2 := hB2
      clear hB2
      refine ⟨_, rfl, _, rfl, _, _, rfl, rfl, by (refine Nat.le_trans ?_ (show 1000000 ≤ sizeLine by decide); (try simp only [strLen_append, emp_len, l_sp, l_ob, l_cb, l_op, l_cp, l_cs, l_eq, l_st, ll_let, ll_b2, ll_b3, ll_rev, ll_swap, ll_fill, ll_res, ll_copy, ll_w1, ll_w2, ll_w3, ll_w4]); omega), _, _, rfl, rfl, by (refine Nat.le_trans ?_ (show 1000000 ≤ sizeLine by decide); (try simp only [strLen_append, emp_len, l_sp, l_ob, l_cb, l_op, l_cp, l_cs, l_eq, l_st, ll_let, ll_b2, ll_b3, ll_rev, ll_swap, ll_fill, ll_res, ll_copy, ll_w1, ll_w2, ll_w3, ll_w4]); omega), _, rfl, _, _, rfl, rfl, by (refine Nat.le_trans ?_ (show 1000000 ≤ sizeLine by decide); (try simp only [strLen_append, emp_len, l_sp, l_ob, l_cb, l_op, l_cp, l_cs, l_eq, l_st, ll_let, ll_b2, ll_b3, ll_rev, ll_swap, ll_fill, ll_res, ll_copy, ll_w1, ll_w2, ll_w3, ll_w4]); omega), _, _, rfl, rfl, by (refine Nat.le_trans ?_ (show 1000000 ≤ sizeLine by decide); (try simp only [strLen_append, emp_len, l_sp, l_ob, l_cb, l_op, l_cp, l_cs, l_eq, l_st, ll_let, ll_b2, ll_b3, ll_rev, ll_swap, ll_fill, ll_res, ll_copy, ll_w1, ll_w2, ll_w3, ll_w4]); omega), _, rfl, _, _, rfl, rfl, by (refine Nat.le_trans ?_ (show 1000000 ≤ sizeLine by decide); (try simp only [strLen_append, emp_len, l_sp, l_ob, l_cb, l_op, l_cp, l_cs, l_eq, l_st, ll_let, ll_b2, ll_b3, ll_rev, ll_swap, ll_fill, ll_res, ll_copy, ll_w1, ll_w2, ll_w3, ll_w4]); omega), (by show 2 ≤ sizeLine; decide), fun q6 HA nA sA' hA => ?_⟩
      rw [due8, ← eB2, due9] at hA
      refine ⟨q5, q6, _, _, rfl, rfl, sA' _ _ hE, hA, (by show 10 ≤ sizeLine; decide), fun r HR nr sr hr' => ?_⟩
      exact k r HR ((sE.trans sA').trans sr) ((sE.trans sA').free nr) hr'
end
end Lw

/-! ## StH -/
set_option maxHeartbeats 1000000
namespace Lw
open PySem PySem.Spec PyProof.Rows L2
open Fm (cf Asc Nm)
def spSorts (Z : Sz) : Sp := fun vs H Q _ => ∃ (a : Addr) (κ : Nat) (l : Str), vs = [.ref a] ∧ SAt Z H a κ l ∧ ∀ r H', Same H H' → H r = none → H' r = some (.lst ((List.range 10).map fun j => V.bl (sortK κ j))) → Q (.ref r) H'
def argsOf (d : Dt) (s : Nat) : List V := (fldsOf d s).map (·.2)
def spArgs (Z : Sz) : Sp := fun vs H Q _ => ∃ (a : Addr) (d : Dt) (s : Nat), vs = [.ref a, .int (s : Int)] ∧ s < 10 ∧ StAt Z H a (kindOf s) (lineOf d s) (fldsOf d s) ∧ ∀ r H', Same H H' → H r = none → H' r = some (.lst (argsOf d s)) → Q (.ref r) H'
def spArgsDue : Sp := fun vs H Q _ => ∃ (p1 p2 : Addr) (d : Dt) (s : Nat), vs = [.ref p1, .ref p2, .int d.i, .int (s : Int)] ∧ s < 10 ∧ H p1 = some (.lst [.str d.n1, .str d.n2]) ∧ H p2 = some (.lst [.ref d.f1, .ref d.f2, .ref d.f3]) ∧ ∀ r H', Same H H' → H r = none → H' r = some (.lst (argsOf d s)) → Q (.ref r) H'
theorem lkF {q r : Addr} {mv : Int} {fs : List (Str × V)} {f : Str} {v : V} (hf : (["lines", "forms", "size", "moves", "ifs", "nesting"] : List Str).all (fun g => !(f == g)) = true) (h : fs.lookup f = some v) : (bF q r mv ++ fs).lookup f = some v := by
  simp only [List.all_cons, List.all_nil, Bool.and_true, Bool.and_eq_true, Bool.not_eq_true'] at hf
  obtain ⟨h1, h2, h3, h4, h5, h6⟩ := hf
  unfold bF
  simp only [List.cons_append, List.nil_append, List.lookup_cons, h1, h2, h3, h4, h5, h6]
  exact h
section
variable {P : Program} {w : World} {K : PySem.W.Frag} {mg : Str → Option Value} {base : Heap} {Z : Sz}
theorem ok_law_sorts {f : Addr} {fd : FuncData} (F : Fun K "_law_sorts" "_law_sorts" s__law_sorts f fd) (T : Ta mg) (Z0 : Sf K mg Z) : FnG P w K mg base 1 f fd ["_law_made"] (spSorts Z) := by
  refine okG F sc__law_sorts (fun vs H Q E h => ?_) (fun cdv A outer s H vs Q hr h => ?_)
  · obtain ⟨a, κ, l, rfl, _⟩ := h
    rfl
  · obtain ⟨a, κ, l, rfl, ⟨hκ, sl, _, fs, ⟨dx, q, r, mv, ha, hq⟩⟩, k⟩ := h
    refine ⟨_, (pss_cons (ps_set (i := 1) sc__law_sorts.nd rfl (by first | exact .inl rfl | exact .inr rfl) (pe_lstS (pa_cons (pe_callB (call_isSt (K := K) rfl Z0 0 (by decide)) (by rfl) T.b_isinstance (by decide +kernel) (pa_cons (pv 0) (pa_cons (pe_gl (v := .ref (Z.j 0)) rfl (Z0.g 0 (by decide))) pa_nil))) (pa_cons (pe_callB (call_isSt (K := K) rfl Z0 1 (by decide)) (by rfl) T.b_isinstance (by decide +kernel) (pa_cons (pv 0) (pa_cons (pe_gl (v := .ref (Z.j 1)) rfl (Z0.g 1 (by decide))) pa_nil))) (pa_cons (pe_callB (call_isSt (K := K) rfl Z0 2 (by decide)) (by rfl) T.b_isinstance (by decide +kernel) (pa_cons (pv 0) (pa_cons (pe_gl (v := .ref (Z.j 2)) rfl (Z0.g 2 (by decide))) pa_nil))) (pa_cons (pe_callB (call_isSt (K := K) rfl Z0 3 (by decide)) (by rfl) T.b_isinstance (by decide +kernel) (pa_cons (pv 0) (pa_cons (pe_gl (v := .ref (Z.j 3)) rfl (Z0.g 3 (by decide))) pa_nil))) pa_nil))))))
  (pss_cons (ps_set (i := 1) sc__law_sorts.nd rfl (by first | exact .inl rfl | exact .inr rfl) (pe_op op_catS (pv 1) (pe_lstS (pa_cons (pe_callB (call_isSt (K := K) rfl Z0 4 (by decide)) (by rfl) T.b_isinstance (by decide +kernel) (pa_cons (pv 0) (pa_cons (pe_gl (v := .ref (Z.j 4)) rfl (Z0.g 4 (by decide))) pa_nil))) (pa_cons (pe_callB (call_isSt (K := K) rfl Z0 5 (by decide)) (by rfl) T.b_isinstance (by decide +kernel) (pa_cons (pv 0) (pa_cons (pe_gl (v := .ref (Z.j 5)) rfl (Z0.g 5 (by decide))) pa_nil))) (pa_cons (pe_callB (call_isSt (K := K) rfl Z0 6 (by decide)) (by rfl) T.b_isinstance (by decide +kernel) (pa_cons (pv 0) (pa_cons (pe_gl (v := .ref (Z.j 6)) rfl (Z0.g 6 (by decide))) pa_nil))) pa_nil))))))
  (pss_one (ps_ret (pe_op op_catS (pv 1) (pe_lstS (pa_cons (pe_callB (call_isSt (K := K) rfl Z0 7 (by decide)) (by rfl) T.b_isinstance (by decide +kernel) (pa_cons (pv 0) (pa_cons (pe_gl (v := .ref (Z.j 7)) rfl (Z0.g 7 (by decide))) pa_nil))) (pa_cons (pe_callB (call_isSt (K := K) rfl Z0 8 (by decide)) (by rfl) T.b_isinstance (by decide +kernel) (pa_cons (pv 0) (pa_cons (pe_gl (v := .ref (Z.j 8)) rfl (Z0.g 8 (by decide))) pa_nil))) (pa_cons (pe_callB (call_isSt (K := K) rfl Z0 9 (by decide)) (by rfl) T.b_isinstance (by decide +kernel) (pa_cons (pv 0) (pa_cons (pe_gl (v := .ref (Z.j 9)) rfl (Z0.g 9 (by decide))) pa_nil))) pa_nil))))))))), ?_⟩
    refine ⟨_, rfl, a, κ, dx, _, rfl, ha, hκ, _, rfl, a, κ, dx, _, rfl, ha, hκ, _, rfl, a, κ, dx, _, rfl, ha, hκ, _, rfl, a, κ, dx, _, rfl, ha, hκ, (by show 4 ≤ sizeLine; decide), fun q1 H1 n1 s1 h1 => ?_⟩
    refine ⟨_, rfl, _, rfl, a, κ, dx, _, rfl, s1 _ _ ha, hκ, _, rfl, a, κ, dx, _, rfl, s1 _ _ ha, hκ, _, rfl, a, κ, dx, _, rfl, s1 _ _ ha, hκ, (by show 3 ≤ sizeLine; decide), fun q2 H2 n2 s2 h2 => ?_⟩
    have s12 := s1.trans s2
    refine ⟨q1, q2, _, _, rfl, rfl, s2 _ _ h1, h2, (by show 7 ≤ sizeLine; decide), fun q3 H3 n3 s3 h3 => ?_⟩
    have s13 := s12.trans s3
    refine ⟨_, rfl, _, rfl, a, κ, dx, _, rfl, s13 _ _ ha, hκ, _, rfl, a, κ, dx, _, rfl, s13 _ _ ha, hκ, _, rfl, a, κ, dx, _, rfl, s13 _ _ ha, hκ, (by show 3 ≤ sizeLine; decide), fun q4 H4 n4 s4 h4 => ?_⟩
    have s14 := s13.trans s4
    refine ⟨q3, q4, _, _, rfl, rfl, s4 _ _ h3, h4, (by show 10 ≤ sizeLine; decide), fun q5 H5 n5 s5 h5 => ?_⟩
    exact k q5 H5 (s14.trans s5) (s14.free n5) h5
theorem ok_law_arguments {f : Addr} {fd : FuncData} (F : Fun K "_law_arguments" "_law_arguments" s__law_arguments f fd) (T : Ta mg) (Z0 : Sf K mg Z) : FnG P w K mg base 1 f fd ["_law_made", "_law_spot"] (spArgs Z) := by
  refine okG F sc__law_arguments (fun vs H Q E h => ?_) (fun cdv A outer s H vs Q hr h => ?_)
  · obtain ⟨a, d, s, rfl, _⟩ := h
    rfl
  · obtain ⟨a, d, n, rfl, hn, ⟨dx, q, r, mv, ha, hq⟩, k⟩ := h
    refine ⟨_, (pss_cons (ps_if (pt_cmpR op_eq (pv 1) pe_int (nomark _))
    (pss_one (ps_ret (pe_lstS (pa_cons (pe_fld (pv 0) rfl) (pa_cons (pe_fld (pv 0) rfl) pa_nil)))))
    pss_nil)
  (pss_cons (ps_if (pt_cmpR op_eq (pv 1) pe_int (nomark _))
    (pss_one (ps_ret (pe_lstS (pa_cons (pe_fld (pv 0) rfl) (pa_cons (pe_fld (pv 0) rfl) (pa_cons (pe_fld (pv 0) rfl) pa_nil))))))
    pss_nil)
  (pss_cons (ps_if (pt_cmpR op_eq (pv 1) pe_int (nomark _))
    (pss_one (ps_ret (pe_lstS (pa_cons (pe_fld (pv 0) rfl) (pa_cons (pe_fld (pv 0) rfl) (pa_cons (pe_fld (pv 0) rfl) (pa_cons (pe_fld (pv 0) rfl) (pa_cons (pe_fld (pv 0) rfl) pa_nil))))))))
    pss_nil)
  (pss_cons (ps_if (pt_cmpR op_eq (pv 1) pe_int (nomark _))
    (pss_one (ps_ret (pe_lstS (pa_cons (pe_fld (pv 0) rfl) (pa_cons (pe_fld (pv 0) rfl) (pa_cons (pe_fld (pv 0) rfl) (pa_cons (pe_fld (pv 0) rfl) pa_nil)))))))
    pss_nil)
  (pss_cons (ps_if (pt_cmpR op_eq (pv 1) pe_int (nomark _))
    (pss_one (ps_ret (pe_lstS (pa_cons (pe_fld (pv 0) rfl) (pa_cons (pe_fld (pv 0) rfl) pa_nil)))))
    pss_nil)
  (pss_one (ps_ret (pe_lstS (pa_cons (pe_fld (pv 0) rfl) (pa_cons (pe_fld (pv 0) rfl) (pa_cons (pe_fld (pv 0) rfl) (pa_cons (pe_fld (pv 0) rfl) (pa_cons (pe_fld (pv 0) rfl) pa_nil))))))))))))), ?_⟩
    match n, hn, ha, k with
    | 0, _, ha, k =>
      have no := Z0.no 0 (by decide)
      have cl := Z0.cls 0 (by decide)
      refine ⟨_, rfl, rfl, _, rfl, iteT ?_⟩
      exact ⟨_, rfl, a, _, dx, _, _, rfl, ha, cl, no _ (by decide +kernel), lkF (by decide +kernel) (by rfl), _, rfl, a, _, dx, _, _, rfl, ha, cl, no _ (by decide +kernel), lkF (by decide +kernel) (by rfl), (by show 2 ≤ sizeLine; decide), fun p H1 np s1 hp => k p H1 s1 np hp⟩
    | 1, _, ha, k =>
      have no := Z0.no 1 (by decide)
      have cl := Z0.cls 1 (by decide)
      refine ⟨_, rfl, rfl, _, rfl, iteF ?_⟩
      refine ⟨_, rfl, rfl, _, rfl, iteF ?_⟩
      refine ⟨_, rfl, rfl, _, rfl, iteF ?_⟩
      refine ⟨_, rfl, rfl, _, rfl, iteF ?_⟩
      refine ⟨_, rfl, rfl, _, rfl, iteF ?_⟩
      exact ⟨_, rfl, a, _, dx, _, _, rfl, ha, cl, no _ (by decide +kernel), lkF (by decide +kernel) (by rfl), _, rfl, a, _, dx, _, _, rfl, ha, cl, no _ (by decide +kernel), lkF (by decide +kernel) (by rfl), _, rfl, a, _, dx, _, _, rfl, ha, cl, no _ (by decide +kernel), lkF (by decide +kernel) (by rfl), _, rfl, a, _, dx, _, _, rfl, ha, cl, no _ (by decide +kernel), lkF (by decide +kernel) (by rfl), _, rfl, a, _, dx, _, _, rfl, ha, cl, no _ (by decide +kernel), lkF (by decide +kernel) (by rfl), (by show 5 ≤ sizeLine; decide), fun p H1 np s1 hp => k p H1 s1 np hp⟩
    | 2, _, ha, k =>
      have no := Z0.no 2 (by decide)
      have cl := Z0.cls 2 (by decide)
      refine ⟨_, rfl, rfl, _, rfl, iteF ?_⟩
      refine ⟨_, rfl, rfl, _, rfl, iteF ?_⟩
      refine ⟨_, rfl, rfl, _, rfl, iteF ?_⟩
      refine ⟨_, rfl, rfl, _, rfl, iteF ?_⟩
      refine ⟨_, rfl, rfl, _, rfl, iteF ?_⟩
      exact ⟨_, rfl, a, _, dx, _, _, rfl, ha, cl, no _ (by decide +kernel), lkF (by decide +kernel) (by rfl), _, rfl, a, _, dx, _, _, rfl, ha, cl, no _ (by decide +kernel), lkF (by decide +kernel) (by rfl), _, rfl, a, _, dx, _, _, rfl, ha, cl, no _ (by decide +kernel), lkF (by decide +kernel) (by rfl), _, rfl, a, _, dx, _, _, rfl, ha, cl, no _ (by decide +kernel), lkF (by decide +kernel) (by rfl), _, rfl, a, _, dx, _, _, rfl, ha, cl, no _ (by decide +kernel), lkF (by decide +kernel) (by rfl), (by show 5 ≤ sizeLine; decide), fun p H1 np s1 hp => k p H1 s1 np hp⟩
    | 3, _, ha, k =>
      have no := Z0.no 3 (by decide)
      have cl := Z0.cls 3 (by decide)
      refine ⟨_, rfl, rfl, _, rfl, iteF ?_⟩
      refine ⟨_, rfl, rfl, _, rfl, iteF ?_⟩
      refine ⟨_, rfl, rfl, _, rfl, iteF ?_⟩
      refine ⟨_, rfl, rfl, _, rfl, iteF ?_⟩
      refine ⟨_, rfl, rfl, _, rfl, iteF ?_⟩
      exact ⟨_, rfl, a, _, dx, _, _, rfl, ha, cl, no _ (by decide +kernel), lkF (by decide +kernel) (by rfl), _, rfl, a, _, dx, _, _, rfl, ha, cl, no _ (by decide +kernel), lkF (by decide +kernel) (by rfl), _, rfl, a, _, dx, _, _, rfl, ha, cl, no _ (by decide +kernel), lkF (by decide +kernel) (by rfl), _, rfl, a, _, dx, _, _, rfl, ha, cl, no _ (by decide +kernel), lkF (by decide +kernel) (by rfl), _, rfl, a, _, dx, _, _, rfl, ha, cl, no _ (by decide +kernel), lkF (by decide +kernel) (by rfl), (by show 5 ≤ sizeLine; decide), fun p H1 np s1 hp => k p H1 s1 np hp⟩
    | 4, _, ha, k =>
      have no := Z0.no 4 (by decide)
      have cl := Z0.cls 4 (by decide)
      refine ⟨_, rfl, rfl, _, rfl, iteF ?_⟩
      refine ⟨_, rfl, rfl, _, rfl, iteF ?_⟩
      refine ⟨_, rfl, rfl, _, rfl, iteF ?_⟩
      refine ⟨_, rfl, rfl, _, rfl, iteF ?_⟩
      refine ⟨_, rfl, rfl, _, rfl, iteF ?_⟩
      exact ⟨_, rfl, a, _, dx, _, _, rfl, ha, cl, no _ (by decide +kernel), lkF (by decide +kernel) (by rfl), _, rfl, a, _, dx, _, _, rfl, ha, cl, no _ (by decide +kernel), lkF (by decide +kernel) (by rfl), _, rfl, a, _, dx, _, _, rfl, ha, cl, no _ (by decide +kernel), lkF (by decide +kernel) (by rfl), _, rfl, a, _, dx, _, _, rfl, ha, cl, no _ (by decide +kernel), lkF (by decide +kernel) (by rfl), _, rfl, a, _, dx, _, _, rfl, ha, cl, no _ (by decide +kernel), lkF (by decide +kernel) (by rfl), (by show 5 ≤ sizeLine; decide), fun p H1 np s1 hp => k p H1 s1 np hp⟩
    | 5, _, ha, k =>
      have no := Z0.no 5 (by decide)
      have cl := Z0.cls 5 (by decide)
      refine ⟨_, rfl, rfl, _, rfl, iteF ?_⟩
      refine ⟨_, rfl, rfl, _, rfl, iteT ?_⟩
      exact ⟨_, rfl, a, _, dx, _, _, rfl, ha, cl, no _ (by decide +kernel), lkF (by decide +kernel) (by rfl), _, rfl, a, _, dx, _, _, rfl, ha, cl, no _ (by decide +kernel), lkF (by decide +kernel) (by rfl), _, rfl, a, _, dx, _, _, rfl, ha, cl, no _ (by decide +kernel), lkF (by decide +kernel) (by rfl), (by show 3 ≤ sizeLine; decide), fun p H1 np s1 hp => k p H1 s1 np hp⟩
    | 6, _, ha, k =>
      have no := Z0.no 6 (by decide)
      have cl := Z0.cls 6 (by decide)
      refine ⟨_, rfl, rfl, _, rfl, iteF ?_⟩
      refine ⟨_, rfl, rfl, _, rfl, iteF ?_⟩
      refine ⟨_, rfl, rfl, _, rfl, iteT ?_⟩
      exact ⟨_, rfl, a, _, dx, _, _, rfl, ha, cl, no _ (by decide +kernel), lkF (by decide +kernel) (by rfl), _, rfl, a, _, dx, _, _, rfl, ha, cl, no _ (by decide +kernel), lkF (by decide +kernel) (by rfl), _, rfl, a, _, dx, _, _, rfl, ha, cl, no _ (by decide +kernel), lkF (by decide +kernel) (by rfl), _, rfl, a, _, dx, _, _, rfl, ha, cl, no _ (by decide +kernel), lkF (by decide +kernel) (by rfl), _, rfl, a, _, dx, _, _, rfl, ha, cl, no _ (by decide +kernel), lkF (by decide +kernel) (by rfl), (by show 5 ≤ sizeLine; decide), fun p H1 np s1 hp => k p H1 s1 np hp⟩
    | 7, _, ha, k =>
      have no := Z0.no 7 (by decide)
      have cl := Z0.cls 7 (by decide)
      refine ⟨_, rfl, rfl, _, rfl, iteF ?_⟩
      refine ⟨_, rfl, rfl, _, rfl, iteF ?_⟩
      refine ⟨_, rfl, rfl, _, rfl, iteF ?_⟩
      refine ⟨_, rfl, rfl, _, rfl, iteT ?_⟩
      exact ⟨_, rfl, a, _, dx, _, _, rfl, ha, cl, no _ (by decide +kernel), lkF (by decide +kernel) (by rfl), _, rfl, a, _, dx, _, _, rfl, ha, cl, no _ (by decide +kernel), lkF (by decide +kernel) (by rfl), _, rfl, a, _, dx, _, _, rfl, ha, cl, no _ (by decide +kernel), lkF (by decide +kernel) (by rfl), _, rfl, a, _, dx, _, _, rfl, ha, cl, no _ (by decide +kernel), lkF (by decide +kernel) (by rfl), (by show 4 ≤ sizeLine; decide), fun p H1 np s1 hp => k p H1 s1 np hp⟩
    | 8, _, ha, k =>
      have no := Z0.no 8 (by decide)
      have cl := Z0.cls 8 (by decide)
      refine ⟨_, rfl, rfl, _, rfl, iteF ?_⟩
      refine ⟨_, rfl, rfl, _, rfl, iteF ?_⟩
      refine ⟨_, rfl, rfl, _, rfl, iteF ?_⟩
      refine ⟨_, rfl, rfl, _, rfl, iteF ?_⟩
      refine ⟨_, rfl, rfl, _, rfl, iteT ?_⟩
      exact ⟨_, rfl, a, _, dx, _, _, rfl, ha, cl, no _ (by decide +kernel), lkF (by decide +kernel) (by rfl), _, rfl, a, _, dx, _, _, rfl, ha, cl, no _ (by decide +kernel), lkF (by decide +kernel) (by rfl), (by show 2 ≤ sizeLine; decide), fun p H1 np s1 hp => k p H1 s1 np hp⟩
    | 9, _, ha, k =>
      have no := Z0.no 1 (by decide)
      have cl := Z0.cls 1 (by decide)
      refine ⟨_, rfl, rfl, _, rfl, iteF ?_⟩
      refine ⟨_, rfl, rfl, _, rfl, iteF ?_⟩
      refine ⟨_, rfl, rfl, _, rfl, iteF ?_⟩
      refine ⟨_, rfl, rfl, _, rfl, iteF ?_⟩
      refine ⟨_, rfl, rfl, _, rfl, iteF ?_⟩
      exact ⟨_, rfl, a, _, dx, _, _, rfl, ha, cl, no _ (by decide +kernel), lkF (by decide +kernel) (by rfl), _, rfl, a, _, dx, _, _, rfl, ha, cl, no _ (by decide +kernel), lkF (by decide +kernel) (by rfl), _, rfl, a, _, dx, _, _, rfl, ha, cl, no _ (by decide +kernel), lkF (by decide +kernel) (by rfl), _, rfl, a, _, dx, _, _, rfl, ha, cl, no _ (by decide +kernel), lkF (by decide +kernel) (by rfl), _, rfl, a, _, dx, _, _, rfl, ha, cl, no _ (by decide +kernel), lkF (by decide +kernel) (by rfl), (by show 5 ≤ sizeLine; decide), fun p H1 np s1 hp => k p H1 s1 np hp⟩
theorem ok_law_arguments_due {f : Addr} {fd : FuncData} (F : Fun K "_law_arguments_due" "_law_arguments_due" s__law_arguments_due f fd) (T : Ta mg) : FnG P w K mg base 1 f fd ["_law_tags", "_law_some", "_law_code", "_law_spot"] spArgsDue := by
  refine okG F sc__law_arguments_due (fun vs H Q E h => ?_) (fun cdv A outer s H vs Q hr h => ?_)
  · obtain ⟨p1, p2, d, s, rfl, _⟩ := h
    rfl
  · obtain ⟨p1, p2, d, n, rfl, hn, h1, h2, k⟩ := h
    refine ⟨_, (pss_cons (ps_asg (pe_tupS (pa_cons (pe_ix ix_list (pv 0) pe_int (fun _ _ => rfl)) (pa_cons (pe_ix ix_list (pv 0) pe_int (fun _ _ => rfl)) (pa_cons (pv 1) pa_nil)))) (pg_tup rfl (pgs_cons (pg_name (i := 4) sc__law_arguments_due.nd rfl (by first | exact .inl rfl | exact .inr rfl)) (pgs_cons (pg_name (i := 5) sc__law_arguments_due.nd rfl (by first | exact .inl rfl | exact .inr rfl)) (pgs_cons (pg_unl rfl (pgs_cons (pg_name (i := 6) sc__law_arguments_due.nd rfl (by first | exact .inl rfl | exact .inr rfl)) (pgs_cons (pg_name (i := 7) sc__law_arguments_due.nd rfl (by first | exact .inl rfl | exact .inr rfl)) (pgs_cons (pg_name (i := 8) sc__law_arguments_due.nd rfl (by first | exact .inl rfl | exact .inr rfl)) pgs_nil)))) pgs_nil)))))
  (pss_cons (ps_if (pt_cmpR (r := rIn K false) op_in_seq (pv 3) (pe_lstS (pa_cons pe_int (pa_cons pe_int pa_nil))) rfl)
    (pss_one (ps_ret (pe_lstS (pa_cons (pv 4) (pa_cons (pv 6) pa_nil)))))
    pss_nil)
  (pss_cons (ps_if (pt_cmpR op_eq (pv 3) pe_int (nomark _))
    (pss_one (ps_ret (pe_lstS (pa_cons (pv 4) (pa_cons (pv 7) (pa_cons (pv 8) pa_nil))))))
    pss_nil)
  (pss_cons (ps_if (pt_cmpR op_eq (pv 3) pe_int (nomark _))
    (pss_one (ps_ret (pe_lstS (pa_cons (pv 4) (pa_cons (pv 7) (pa_cons (pv 8) (pa_cons (pv 2) pa_nil)))))))
    pss_nil)
  (pss_one (ps_ret (pe_mid (pe_ifExp (pt_cmpR op_eq (pv 3) pe_int (nomark _)) (pe_lstS (pa_cons (pv 5) (pa_cons (pv 8) (pa_cons (pv 4) (pa_cons (pv 6) (pa_cons (pv 7) pa_nil)))))) (pe_lstS (pa_cons (pv 4) (pa_cons (pv 6) (pa_cons (pv 5) (pa_cons (pv 7) (pa_cons (pv 8) pa_nil)))))))))))))), ?_⟩
    refine ⟨_, rfl, p1, _, 0, _, rfl, rfl, SqL.of h1, L2.atI_nat (j := 0) rfl, _, rfl, p1, _, 1, _, rfl, rfl, SqL.of h1, L2.atI_nat (j := 1) rfl, _, rfl, (by show 3 ≤ sizeLine; decide), fun q H1 nq s1 hq => ?_⟩
    refine ⟨q, _, rfl, SqT.of hq, rfl, _, _, rfl, _, _, rfl, _, _, rfl, p2, _, rfl, SqL.of (s1 _ _ h2), rfl, _, _, rfl, _, _, rfl, _, _, rfl, rfl, rfl, ?_⟩
    refine ⟨_, rfl, (by show 2 ≤ sizeLine; decide), fun q2 H2 n2 s2 hq2 => ?_⟩
    have s12 := s1.trans s2
    refine ⟨q2, _, rfl, .inl (SqL.of hq2), rfl, rfl, _, rfl, ?_⟩
    match n, hn, k with
    | 0, _, k =>
      refine iteT ?_
      exact ⟨_, rfl, _, rfl, (by show 2 ≤ sizeLine; decide), fun p H3 np s3 hp => k p H3 (s12.trans s3) (s12.free np) hp⟩
    | 1, _, k =>
      refine iteF ?_
      refine ⟨_, rfl, rfl, _, rfl, iteF ?_⟩
      refine ⟨_, rfl, rfl, _, rfl, iteF ?_⟩
      exact ⟨fun v H4 => ∃ p, v = .ref p ∧ Same H H4 ∧ H p = none ∧ H4 p = some (.lst (argsOf d 1)), ⟨_, rfl, rfl, _, rfl, iteF ⟨_, rfl, _, rfl, _, rfl, _, rfl, _, rfl, (by show 5 ≤ sizeLine; decide), fun p H3 np s3 hp => ⟨p, rfl, s12.trans s3, s12.free np, hp⟩⟩⟩, fun v H4 ⟨p, e, sm, np, hp⟩ => by
        subst e
        exact k p H4 sm np hp⟩
    | 2, _, k =>
      refine iteF ?_
      refine ⟨_, rfl, rfl, _, rfl, iteF ?_⟩
      refine ⟨_, rfl, rfl, _, rfl, iteF ?_⟩
      exact ⟨fun v H4 => ∃ p, v = .ref p ∧ Same H H4 ∧ H p = none ∧ H4 p = some (.lst (argsOf d 2)), ⟨_, rfl, rfl, _, rfl, iteF ⟨_, rfl, _, rfl, _, rfl, _, rfl, _, rfl, (by show 5 ≤ sizeLine; decide), fun p H3 np s3 hp => ⟨p, rfl, s12.trans s3, s12.free np, hp⟩⟩⟩, fun v H4 ⟨p, e, sm, np, hp⟩ => by
        subst e
        exact k p H4 sm np hp⟩
    | 3, _, k =>
      refine iteF ?_
      refine ⟨_, rfl, rfl, _, rfl, iteF ?_⟩
      refine ⟨_, rfl, rfl, _, rfl, iteF ?_⟩
      exact ⟨fun v H4 => ∃ p, v = .ref p ∧ Same H H4 ∧ H p = none ∧ H4 p = some (.lst (argsOf d 3)), ⟨_, rfl, rfl, _, rfl, iteF ⟨_, rfl, _, rfl, _, rfl, _, rfl, _, rfl, (by show 5 ≤ sizeLine; decide), fun p H3 np s3 hp => ⟨p, rfl, s12.trans s3, s12.free np, hp⟩⟩⟩, fun v H4 ⟨p, e, sm, np, hp⟩ => by
        subst e
        exact k p H4 sm np hp⟩
    | 4, _, k =>
      refine iteF ?_
      refine ⟨_, rfl, rfl, _, rfl, iteF ?_⟩
      refine ⟨_, rfl, rfl, _, rfl, iteF ?_⟩
      exact ⟨fun v H4 => ∃ p, v = .ref p ∧ Same H H4 ∧ H p = none ∧ H4 p = some (.lst (argsOf d 4)), ⟨_, rfl, rfl, _, rfl, iteF ⟨_, rfl, _, rfl, _, rfl, _, rfl, _, rfl, (by show 5 ≤ sizeLine; decide), fun p H3 np s3 hp => ⟨p, rfl, s12.trans s3, s12.free np, hp⟩⟩⟩, fun v H4 ⟨p, e, sm, np, hp⟩ => by
        subst e
        exact k p H4 sm np hp⟩
    | 5, _, k =>
      refine iteF ?_
      refine ⟨_, rfl, rfl, _, rfl, iteT ?_⟩
      exact ⟨_, rfl, _, rfl, _, rfl, (by show 3 ≤ sizeLine; decide), fun p H3 np s3 hp => k p H3 (s12.trans s3) (s12.free np) hp⟩
    | 6, _, k =>
      refine iteF ?_
      refine ⟨_, rfl, rfl, _, rfl, iteF ?_⟩
      refine ⟨_, rfl, rfl, _, rfl, iteF ?_⟩
      exact ⟨fun v H4 => ∃ p, v = .ref p ∧ Same H H4 ∧ H p = none ∧ H4 p = some (.lst (argsOf d 6)), ⟨_, rfl, rfl, _, rfl, iteF ⟨_, rfl, _, rfl, _, rfl, _, rfl, _, rfl, (by show 5 ≤ sizeLine; decide), fun p H3 np s3 hp => ⟨p, rfl, s12.trans s3, s12.free np, hp⟩⟩⟩, fun v H4 ⟨p, e, sm, np, hp⟩ => by
        subst e
        exact k p H4 sm np hp⟩
    | 7, _, k =>
      refine iteF ?_
      refine ⟨_, rfl, rfl, _, rfl, iteF ?_⟩
      refine ⟨_, rfl, rfl, _, rfl, iteT ?_⟩
      exact ⟨_, rfl, _, rfl, _, rfl, _, rfl, (by show 4 ≤ sizeLine; decide), fun p H3 np s3 hp => k p H3 (s12.trans s3) (s12.free np) hp⟩
    | 8, _, k =>
      refine iteT ?_
      exact ⟨_, rfl, _, rfl, (by show 2 ≤ sizeLine; decide), fun p H3 np s3 hp => k p H3 (s12.trans s3) (s12.free np) hp⟩
    | 9, _, k =>
      refine iteF ?_
      refine ⟨_, rfl, rfl, _, rfl, iteF ?_⟩
      refine ⟨_, rfl, rfl, _, rfl, iteF ?_⟩
      exact ⟨fun v H4 => ∃ p, v = .ref p ∧ Same H H4 ∧ H p = none ∧ H4 p = some (.lst (argsOf d 9)), ⟨_, rfl, rfl, _, rfl, iteT ⟨_, rfl, _, rfl, _, rfl, _, rfl, _, rfl, (by show 5 ≤ sizeLine; decide), fun p H3 np s3 hp => ⟨p, rfl, s12.trans s3, s12.free np, hp⟩⟩⟩, fun v H4 ⟨p, e, sm, np, hp⟩ => by
        subst e
        exact k p H4 sm np hp⟩
end
end Lw

/-! ## StI -/
set_option maxHeartbeats 1000000
namespace Lw
open PySem PySem.Spec PyProof.Rows L2
open Fm (cf Asc Nm)
theorem first_blank : ∀ {a b Y X : List Nat}, 32 ∉ a → 32 ∉ b → (X = [] ∨ ∃ Z, X = 32 :: Z) → a ++ X = b ++ 32 :: Y → a = b
  | [], [], _, _, _, _, _, _ => rfl
  | [], c :: b, Y, X, _, hb, hx, e => by
    rcases hx with rfl | ⟨Z, rfl⟩
    · cases e
    · have : (32 : Nat) = c := by
        injection e with e1 e2
      exact absurd (by rw [this]; exact List.mem_cons_self) hb
  | c :: a, [], Y, X, ha, _, _, e => by
    have : c = 32 := by
      injection e with e1 e2
    exact absurd (by rw [← this]; exact List.mem_cons_self) ha
  | c :: a, c' :: b, Y, X, ha, hb, hx, e => by
    injection e with e1 e2
    rw [e1, first_blank (fun m => ha (List.mem_cons_of_mem _ m)) (fun m => hb (List.mem_cons_of_mem _ m)) hx e2]
theorem split_head {w r : Str} (hw : 32 ∉ TL.tl w) : ∃ rest, Txt.split ((w ++ Str.ofString " ") ++ r) (Str.ofString " ") = w :: rest := by
  have e := StrLaws.join_split ((w ++ Str.ofString " ") ++ r) (Str.ofString " ")
  have fr := StrLaws.split_free ((w ++ Str.ofString " ") ++ r) 32
  rw [show (⟨#[32]⟩ : Str) = Str.ofString " " by decide] at fr
  have tl0 : TL.tl ((w ++ Str.ofString " ") ++ r) = TL.tl w ++ 32 :: TL.tl r := by
    rw [TL.tl_append, TL.tl_append, show TL.tl (Str.ofString " ") = [32] by decide, List.append_assoc]
    rfl
  cases h : Txt.split ((w ++ Str.ofString " ") ++ r) (Str.ofString " ") with
  | nil =>
    rw [h] at e
    have : TL.tl (Str.join (Str.ofString " ") []) = [] := rfl
    rw [e, tl0] at this
    simp at this
  | cons p rest =>
    rw [h] at e fr
    have e1 : TL.tl (Str.join (Str.ofString " ") (p :: rest)) = TL.tl p ++ (rest.map fun x => 32 :: TL.tl x).flatten := Fm.joinB p rest
    rw [e, tl0] at e1
    have hp : 32 ∉ TL.tl p := fr p List.mem_cons_self
    have : TL.tl p = TL.tl w := first_blank hp hw (by
      cases rest with
      | nil => exact .inl rfl
      | cons x t => exact .inr ⟨_, rfl⟩) e1.symm
    exact ⟨rest, by rw [show p = w from Fm.str_ext this]⟩
theorem word_free (κ : Nat) : 32 ∉ TL.tl (wordK κ) := by
  unfold wordK
  split <;> decide
theorem line_form (d : Dt) {s : Nat} (hs : s < 10) : ∃ r, lineOf d s = (wordK (kindOf s) ++ Str.ofString " ") ++ r := by
  have one : ∀ (w n1 : Str) (t1 : Tms) (n2 : Str) (t2 t3 : Tms), lineMv w n1 t1 n2 t2 t3 = (w ++ Str.ofString " ") ++ ((((((atL n1 t1) ++ Str.ofString " ") ++ atL n2 t2) ++ Str.ofString " (") ++ Fm.textS t3) ++ Str.ofString ")") := fun w n1 t1 n2 t2 t3 => by (apply Fm.str_ext; show TL.tl _ = TL.tl _; simp only [lineLet, lineMv, lineRev, lineFill, lineRes, atL, TL.tl_append, tx_emp, tx_let, tx_b1, tx_cb, tx_b2, tx_b3, tx_sp, tx_op, tx_cp, tx_cs, tx_eq, tx_rev, tx_swap, tx_fill, tx_res, tx_copy, tw0, tw1, tw5, tw6, tw7, tw8, List.append_assoc, List.cons_append, List.nil_append, List.append_nil])
  match s, hs with
  | 0, _ => exact ⟨(d.n1 ++ Str.ofString " = ") ++ Fm.textS d.t1, by show lineLet _ _ = (wordK 0 ++ _) ++ _; (apply Fm.str_ext; show TL.tl _ = TL.tl _; simp only [lineLet, lineMv, lineRev, lineFill, lineRes, atL, TL.tl_append, tx_emp, tx_let, tx_b1, tx_cb, tx_b2, tx_b3, tx_sp, tx_op, tx_cp, tx_cs, tx_eq, tx_rev, tx_swap, tx_fill, tx_res, tx_copy, tw0, tw1, tw5, tw6, tw7, tw8, List.append_assoc, List.cons_append, List.nil_append, List.append_nil])⟩
  | 1, _ => exact ⟨_, one (wordK 1) _ _ _ _ _⟩
  | 2, _ => exact ⟨_, one (wordK 2) _ _ _ _ _⟩
  | 3, _ => exact ⟨_, one (wordK 3) _ _ _ _ _⟩
  | 4, _ => exact ⟨_, one (wordK 4) _ _ _ _ _⟩
  | 5, _ => exact ⟨((atL d.n1 d.t2 ++ Str.ofString " (") ++ Fm.textS d.t3) ++ Str.ofString ")", by show lineRev _ _ _ _ = (wordK 5 ++ _) ++ _; (apply Fm.str_ext; show TL.tl _ = TL.tl _; simp only [lineLet, lineMv, lineRev, lineFill, lineRes, atL, TL.tl_append, tx_emp, tx_let, tx_b1, tx_cb, tx_b2, tx_b3, tx_sp, tx_op, tx_cp, tx_cs, tx_eq, tx_rev, tx_swap, tx_fill, tx_res, tx_copy, tw0, tw1, tw5, tw6, tw7, tw8, List.append_assoc, List.cons_append, List.nil_append, List.append_nil])⟩
  | 6, _ => exact ⟨_, one (wordK 6) _ _ _ _ _⟩
  | 7, _ => exact ⟨((((atL d.n1 d.t2 ++ Str.ofString " (") ++ Fm.textS d.t3) ++ Str.ofString ") ") ++ Str.ofString (toString d.i)), by show lineFill _ _ _ _ = (wordK 7 ++ _) ++ _; (apply Fm.str_ext; show TL.tl _ = TL.tl _; simp only [lineLet, lineMv, lineRev, lineFill, lineRes, atL, TL.tl_append, tx_emp, tx_let, tx_b1, tx_cb, tx_b2, tx_b3, tx_sp, tx_op, tx_cp, tx_cs, tx_eq, tx_rev, tx_swap, tx_fill, tx_res, tx_copy, tw0, tw1, tw5, tw6, tw7, tw8, List.append_assoc, List.cons_append, List.nil_append, List.append_nil])⟩
  | 8, _ => exact ⟨((d.n1 ++ Str.ofString " (") ++ Fm.textS d.t1) ++ Str.ofString ")", by show lineRes _ _ = (wordK 8 ++ _) ++ _; (apply Fm.str_ext; show TL.tl _ = TL.tl _; simp only [lineLet, lineMv, lineRev, lineFill, lineRes, atL, TL.tl_append, tx_emp, tx_let, tx_b1, tx_cb, tx_b2, tx_b3, tx_sp, tx_op, tx_cp, tx_cs, tx_eq, tx_rev, tx_swap, tx_fill, tx_res, tx_copy, tw0, tw1, tw5, tw6, tw7, tw8, List.append_assoc, List.cons_append, List.nil_append, List.append_nil])⟩
  | 9, _ => exact ⟨_, one (wordK 1) _ _ _ _ _⟩
theorem lineS_len : ∀ (ts : Tms) (l : Str), (∀ q ∈ ts, q.1.length ≤ 8 ∧ q.2.natAbs < 2 ^ 1000) → (Fm.lineS l ts).length ≤ l.length + 1940 * ts.length
  | [], l, _ => Nat.le_add_right _ _
  | (s, f) :: r, l, h => by
    have hq := h (s, f) List.mem_cons_self
    have w : (Fm.wordS s f).length ≤ 1930 := word_len hq.1 hq.2
    have s3 := sgnM_len f
    have s1 := sgn1_len f
    have ih := lineS_len r (if l = "" then Fm.sgn1 f ++ Fm.wordS s f else l ++ Fm.sgnM f ++ Fm.wordS s f) fun q m => h q (List.mem_cons_of_mem _ m)
    have e : (if l = "" then Fm.sgn1 f ++ Fm.wordS s f else l ++ Fm.sgnM f ++ Fm.wordS s f).length ≤ l.length + 1935 := by
      split
      · rw [strLen_append]
        omega
      · rw [strLen_append, strLen_append]
        omega
    show (Fm.lineS _ r).length ≤ _
    rw [List.length_cons]
    omega
theorem NT.t5 {ts : Tms} (h : NT ts) : (Fm.textS ts).length ≤ 5830 := by
  have e := lineS_len ts "" fun q m => ⟨(h.rd q m).1.1, h.bd.lt q m⟩
  have l3 := h.len
  have e0 : ("" : Str).length = 0 := by decide
  unfold Fm.textS
  split
  · decide
  · omega
theorem at_sm {n : Str} {ts : Tms} (hn : Na n) (h : NT ts) : Sm (atL n ts) := (((((Sm.lit "").app hn.sm).app (Sm.lit "[")).app (text_smN h.na)).app (Sm.lit "]"))
theorem at_len {n : Str} {ts : Tms} (hn : Na n) (h : NT ts) : (atL n ts).length ≤ 5850 := by
  have := h.t5
  have := hn.len
  unfold atL
  simp only [strLen_append, emp_len, l_ob, l_cb]
  omega
theorem word_sm (κ : Nat) : Sm (wordK κ) := by
  unfold wordK
  split <;> exact Sm.lit _
theorem mv_ok {κ : Nat} {n1 n2 : Str} {t1 t2 t3 : Tms} (h1 : Na n1) (h2 : Na n2) (g1 : NT t1) (g2 : NT t2) (g3 : NT t3) : Sm (lineMv (wordK κ) n1 t1 n2 t2 t3) ∧ (lineMv (wordK κ) n1 t1 n2 t2 t3).length ≤ 20000 := by
  refine ⟨((((((((Sm.lit "").app (word_sm κ)).app (Sm.lit " ")).app (at_sm h1 g1)).app (Sm.lit " ")).app (at_sm h2 g2)).app (Sm.lit " (")).app (text_smN g3.na)).app (Sm.lit ")"), ?_⟩
  have := wordK_len κ
  have := at_len h1 g1
  have := at_len h2 g2
  have := g3.t5
  unfold lineMv
  simp only [strLen_append, emp_len, l_sp, l_op, l_cp]
  omega
theorem line_ok19 {d : Dt} (h : DtT d) {s : Nat} (hs : s < 10) : Sm (lineOf d s) ∧ (lineOf d s).length ≤ 20000 := by
  have w0 := wordK_len 0
  have w5 := wordK_len 5
  have w7 := wordK_len 7
  have w8 := wordK_len 8
  have a2 := at_len h.n1 h.t2
  have x1 := h.t1.t5
  have x3 := h.t3.t5
  have il := ilen h.i
  have nl := h.n1.len
  match s, hs with
  | 0, _ =>
    refine ⟨((((Sm.lit "").app (word_sm 0)).app (Sm.lit " ")).app h.n1.sm).app (Sm.lit " = ") |>.app (text_smN h.t1.na), ?_⟩
    show (lineLet _ _).length ≤ _
    unfold lineLet
    simp only [strLen_append, emp_len, l_sp, l_eq]
    omega
  | 1, _ => exact mv_ok (κ := 1) h.n1 h.n2 h.t1 h.t2 h.t3
  | 2, _ => exact mv_ok (κ := 2) h.n1 h.n2 h.t1 h.t2 h.t3
  | 3, _ => exact mv_ok (κ := 3) h.n1 h.n2 h.t1 h.t2 h.t3
  | 4, _ => exact mv_ok (κ := 4) h.n1 h.n2 h.t1 h.t2 h.t3
  | 5, _ =>
    refine ⟨(((((Sm.lit "").app (word_sm 5)).app (Sm.lit " ")).app (at_sm h.n1 h.t2)).app (Sm.lit " (")).app (text_smN h.t3.na) |>.app (Sm.lit ")"), ?_⟩
    show (lineRev _ _ _ _).length ≤ _
    unfold lineRev
    simp only [strLen_append, emp_len, l_sp, l_op, l_cp]
    omega
  | 6, _ => exact mv_ok (κ := 6) h.n1 h.n2 h.t1 h.t2 h.t3
  | 7, _ =>
    refine ⟨((((((Sm.lit "").app (word_sm 7)).app (Sm.lit " ")).app (at_sm h.n1 h.t2)).app (Sm.lit " (")).app (text_smN h.t3.na)).app (Sm.lit ") ") |>.app (Sm.lit _), ?_⟩
    show (lineFill _ _ _ _).length ≤ _
    unfold lineFill
    simp only [strLen_append, emp_len, l_sp, l_op, l_cs]
    show _ + (Str.ofString (toString d.i)).length ≤ _
    omega
  | 8, _ =>
    refine ⟨(((((Sm.lit "").app (word_sm 8)).app (Sm.lit " ")).app h.n1.sm).app (Sm.lit " (")).app (text_smN h.t1.na) |>.app (Sm.lit ")"), ?_⟩
    show (lineRes _ _).length ≤ _
    unfold lineRes
    simp only [strLen_append, emp_len, l_sp, l_op, l_cp]
    omega
  | 9, _ => exact mv_ok (κ := 1) h.n2 h.n1 h.t3 h.t1 h.t2
theorem kind_lt {s : Nat} (hs : s < 10) : kindOf s < 9 := by
  unfold kindOf
  split <;> omega
theorem StAt.s {Z : Sz} {H : Hp} {a : Addr} {d : Dt} {s : Nat} (h : StAt Z H a (kindOf s) (lineOf d s) (fldsOf d s)) (t : DtT d) (hs : s < 10) : SAt Z H a (kindOf s) (lineOf d s) := ⟨kind_lt hs, (line_ok19 t hs).1, Nat.le_trans (line_ok19 t hs).2 (by decide), _, h⟩
def spOne (Z : Sz) : Sp := fun vs H Q _ => ∃ (a : Addr) (d : Dt) (s : Nat), vs = [.ref a, .str (lineOf d s), .int (s : Int)] ∧ s < 10 ∧ DtT d ∧ StAt Z H a (kindOf s) (lineOf d s) (fldsOf d s) ∧ ∀ H', Same H H' → Q (.bl true) H'
def spUnlike (Z : Sz) : Sp := fun vs H Q _ => ∃ (a : Addr) (κ : Nat) (l : Str), vs = [.ref a, .str l] ∧ SAt Z H a κ l ∧ ∀ H', Same H H' → Q (.bl true) H'
theorem in3 : ∀ n, n < 10 → ¬ kindOf n = 1 → inV (V.int (n : Int)) [V.int 2, V.int 3, V.int 4] = sortK (kindOf n) 1 := fun n hn h => by
  match n, hn with
  | 0, _ => rfl
  | 1, _ => exact absurd rfl h
  | 2, _ => rfl
  | 3, _ => rfl
  | 4, _ => rfl
  | 5, _ => rfl
  | 6, _ => rfl
  | 7, _ => rfl
  | 8, _ => rfl
  | 9, _ => exact absurd rfl h
def bsL (κ : Nat) : List Bool := (List.range 10).map (sortK κ)
theorem dp_bls {K : PySem.W.Frag} {H : Hp} : ∀ bs : List Bool, DpAll K H (bs.map V.bl) (bs.map PyData.bool)
  | [] => .nil
  | b :: r => .cons (.bl b) (dp_bls r)
theorem bls_sh (bs : List Bool) : SeqAt.shaped (.list (bs.map PyData.bool)) = true := by
  have h : ∀ l : List Bool, PyData.canLayAll0 (l.map PyData.bool) = true ∧ PyData.depthAll (l.map PyData.bool) = 0 := fun l => by
    induction l with
    | nil => exact ⟨rfl, rfl⟩
    | cons b r ih =>
      refine ⟨?_, ?_⟩
      · show (true && PyData.canLayAll0 (r.map PyData.bool)) = true
        rw [ih.1]
        rfl
      · show max 0 (PyData.depthAll (r.map PyData.bool)) = 0
        rw [ih.2]
        rfl
  refine Bool.and_eq_true_iff.mpr ⟨(h bs).1, decide_eq_true ?_⟩
  show PyData.depthAll (bs.map PyData.bool) + 1 ≤ 64
  rw [(h bs).2]
  decide
/-- what the two lists show -/
def seenL (l w : Str) : PyData := .list [.tuple [.str l], .str l, .str (reprS l), .str w]
theorem reprS_sm {l : Str} (h : Sm l) : Sm (reprS l) := ((Sm.lit "").app (Sm.lit "Statement(")).app h |>.app (Sm.lit ")")
theorem seenL_fit {l w : Str} (hl : Sm l) (hw : Sm w) (l2 : l.length ≤ 20000) (w2 : w.length ≤ 8) : (seenL l w).showable = true ∧ (seenL l w).hasDict = false ∧ (seenL l w).depth ≤ 50 ∧ (seenL l w).shown.length ≤ sizeLine := by
  have r1 := StrLaws.reprText_len l (ok_small hl.ok)
  have r2 := StrLaws.reprText_len (reprS l) (ok_small (reprS_sm hl).ok)
  have r3 := StrLaws.reprText_len w (ok_small hw.ok)
  have e : (reprS l).length = l.length + 11 := by
    unfold reprS
    simp only [strLen_append, emp_len, l_st, l_cp]
    omega
  have t1 := tupleText_len_le [reprText l]
  have t2 := listText_len_le [tupleText [reprText l], reprText l, reprText (reprS l), reprText w]
  simp only [List.map_cons, List.map_nil, List.sum_cons, List.sum_nil, List.length_cons, List.length_nil] at t1 t2
  refine ⟨rfl, rfl, by show 2 ≤ 50; decide, ?_⟩
  show (listText [tupleText [reprText l], reprText l, reprText (reprS l), reprText w]).length ≤ sizeLine
  exact Nat.le_trans (show _ ≤ 1000000 by omega) (by decide)
theorem lkW {q r : Addr} {mv : Int} {d : Dt} {s : Nat} (hs : s < 10) : (bF q r mv ++ fldsOf d s).lookup ("WORD" : Str) = none := by
  match s, hs with
  | 0, _ => rfl
  | 1, _ => rfl
  | 2, _ => rfl
  | 3, _ => rfl
  | 4, _ => rfl
  | 5, _ => rfl
  | 6, _ => rfl
  | 7, _ => rfl
  | 8, _ => rfl
  | 9, _ => rfl
section
variable {P : Program} {w : World} {K : PySem.W.Frag} {mg : Str → Option Value} {base : Heap} {Z : Sz}
theorem ok_law_one_right {f : Addr} {fd : FuncData} (F : Fun K "_law_one_right" "_law_one_right" s__law_one_right f fd) (T : Ta mg) (Z0 : Sf K mg Z) (M_sstr : MtF P w K mg base 1 (KnS Z) "__str__" ["self"] (spSStr Z)) (M_srepr : MtF P w K mg base 1 (KnS Z) "__repr__" ["self"] (spSRepr Z)) (c__law_sorts : Cal P w K mg base 1 "_law_sorts" ["_law_made"] (spSorts Z)) : FnG P w K mg base 10 f fd ["_law_made", "_law_line", "_law_spot"] (spOne Z) := by
  refine okG F sc__law_one_right (fun vs H Q E h => ?_) (fun cdv A outer s H vs Q hr h => ?_)
  · obtain ⟨a, d, n, rfl, _⟩ := h
    rfl
  · obtain ⟨a, d, n, rfl, hn, dt, ha, k⟩ := h
    refine ⟨_, (pss_cons (ps_set (i := 3) sc__law_one_right.nd rfl (by first | exact .inl rfl | exact .inr rfl) (pe_ix ix_list (pe_split (pv 1) pe_str) pe_int (fun _ _ => rfl)))
  (pss_cons (ps_if (pt_cmpR op_ne (pe_callB (call_repr hr) (by rfl) T.b_repr (by decide +kernel) (pa_cons (pe_lstS (pa_cons (pe_fld (pv 0) rfl) (pa_cons (pe_callTy (call_strF M_sstr hr (by decide)) (by rfl) T.b_str (by decide +kernel) (pa_cons (pv 0) pa_nil)) (pa_cons (pe_callB (call_reprF M_srepr hr (by decide)) (by rfl) T.b_repr (by decide +kernel) (pa_cons (pv 0) pa_nil)) (pa_cons (pe_con (pv 0) rfl) pa_nil))))) pa_nil)) (pe_callB (call_repr hr) (by rfl) T.b_repr (by decide +kernel) (pa_cons (pe_lstS (pa_cons (pe_tupS (pa_cons (pv 1) pa_nil)) (pa_cons (pv 1) (pa_cons (pe_op op_add_str (pe_op op_add_str pe_str (pv 1)) pe_str) (pa_cons (pv 3) pa_nil))))) pa_nil)) (nomark _))
    (pss_one (ps_ret pe_bl))
    pss_nil)
  (pss_cons (ps_setLc (i := 4) (own := [("_law_k", 5)]) (g := gName 5) (tt := tYes) rfl sc__law_one_right.nd rfl rfl (sw_true rfl rfl rfl (by decide +kernel)) (pi_range1 rfl T.b_range (pa_cons pe_int pa_nil)) (blkOk_by (own := [("_law_k", 5)]) (N := n__law_one_right) (sc := defScope s__law_one_right) (by decide +kernel)) (fun _ _ _ _ _ => pg_name (i := 5) sc__law_one_right.nd rfl (Or.inl rfl)) (fun _ _ _ _ _ => pts_nil) (fun _ _ _ _ _ => (pe_or (pe_cmpR op_eq (pv 5) (pe_mid (pe_ifExp (pt_cmpR op_eq (pv 2) pe_int (nomark _)) pe_int (pv 2))) (nomark _)) (pe_one (pe_and (pe_cmpR op_eq (pv 5) pe_int (nomark _)) (pe_one (pe_cmpR (r := rIn K false) op_in_seq (pv 2) (pe_lstS (pa_cons pe_int (pa_cons pe_int (pa_cons pe_int pa_nil)))) rfl)))))))
  (pss_one (ps_ret (pe_and (pe_callB (call_isSt (K := K) rfl Z0 10 (by decide)) (by rfl) T.b_isinstance (by decide +kernel) (pa_cons (pv 0) (pa_cons (pe_gl (v := .ref (Z.j 10)) rfl (Z0.g 10 (by decide))) pa_nil))) (pe_one (pe_cmpR (op_eqD hr.units) (pe_c c__law_sorts hr (by decide) rfl (pa_cons (pv 0) pa_nil)) (pv 4) (nomark _))))))))), ?_⟩
    obtain ⟨r0, er⟩ := line_form d hn
    have hs := ha.s dt hn
    have lok := line_ok19 dt hn
    have kl := kind_lt hn
    obtain ⟨uW, con⟩ := Z0.con _ kl
    have cl := Z0.cls _ kl
    have no := Z0.no _ kl
    obtain ⟨rest, hsp⟩ := split_head (w := wordK (kindOf n)) (r := r0) (word_free _)
    rw [← er] at hsp
    have big : ∀ {k : Nat}, k ≤ 1000000 → k ≤ sizeLine := fun h => Nat.le_trans h (by decide)
    refine ⟨_, rfl, ⟨_, rfl⟩, _, _, rfl, rfl, by decide, big (by have := lok.2; omega), fun p hp => ?_⟩
    rw [hsp]
    refine ⟨p, _, 0, _, rfl, rfl, SqL.of upd_same, L2.atI_nat (j := 0) rfl, ?_⟩
    have s1 : Same H (upd H p (.lst ((wordK (kindOf n) :: rest).map V.str))) := Same.new hp
    generalize upd H p (.lst ((wordK (kindOf n) :: rest).map V.str)) = H1 at s1 ⊢
    have ha1 := ha.same s1
    have hs1 := hs.same s1
    obtain ⟨dx, q, r, mv, hi, hq⟩ := ha1
    obtain ⟨f1, f2, f3, f4⟩ := seenL_fit lok.1 (word_sm (kindOf n)) lok.2 (wordK_len _)
    refine ⟨_, rfl, a, _, dx, _, _, rfl, hi, cl, no _ (by decide +kernel), lk_lines, _, rfl, a, rfl, hs1.insK, a, _, _, rfl, hs1, ⟨_, rfl⟩, _, rfl, a, rfl, hs1.insK, a, _, _, rfl, hs1, ⟨_, rfl⟩, _, rfl, a, _, dx, _, _, _, rfl, hi, cl, con, lkW hn, (by show 4 ≤ sizeLine; decide), fun p1 H2 n1 s2 h1 => ?_⟩
    refine ⟨p1, seenL (lineOf d n) (wordK (kindOf n)), rfl, .lst (SqL.of h1) (.cons (.tup (SqT.of (s2 _ _ hq)) (.cons (.str _) .nil)) (.cons (.str _) (.cons (.str _) (.cons (.str _) .nil)))), f1, f2, f3, f4, ?_⟩
    refine ⟨_, rfl, (by show 1 ≤ sizeLine; decide), fun pt H3 nt s3 ht => ?_⟩
    refine ⟨_, rfl, _, rfl, _, _, rfl, rfl, big (by have := lok.2; rw [l_st]; omega), _, _, rfl, rfl, big (by have := lok.2; rw [strLen_append, l_st, l_cp]; omega), _, rfl, (by show 4 ≤ sizeLine; decide), fun p2 H4 n4 s4 h4 => ?_⟩
    have er2 : (Str.ofString "Statement(" ++ lineOf d n) ++ Str.ofString ")" = reprS (lineOf d n) := by
      unfold reprS
      rw [show Str.empty ++ Str.ofString "Statement(" = Str.ofString "Statement(" from empty_app _]
    rw [er2] at h4
    refine ⟨p2, seenL (lineOf d n) (wordK (kindOf n)), rfl, .lst (SqL.of h4) (.cons (.tup (SqT.of (s4 _ _ ht)) (.cons (.str _) .nil)) (.cons (.str _) (.cons (.str _) (.cons (.str _) .nil)))), f1, f2, f3, f4, ?_⟩
    refine ⟨rfl, _, rfl, ite2 (fun h => absurd h (by simp)) fun _ => ?_⟩
    have s14 := ((s1.trans s2).trans s3).trans s4
    refine ⟨10, rfl, by decide, by decide, fun D hD => lc_fn (walk_range (lo := 0) (n := 10)) (fun j => .bl (sortK (kindOf n) j)) (by decide) hD (fun _ _ => True.intro) (fun j x H6 H7 Q' hj s6 y kq => ?_) fun H6 s6 dd => ?_⟩
    · obtain ⟨rfl, rfl⟩ := y
      refine ⟨rfl, _, rfl, fun v H' => v = .int (kindOf n : Int) ∧ H' = H7, ⟨_, rfl, rfl, _, rfl, ite2 (fun h => ?_) fun h => ?_⟩, fun v H' ⟨e, eH⟩ => ?_⟩
      · have e : (n : Int) = 9 := V.int.inj (of_decide_eq_true h)
        have : kindOf n = 1 := by
          unfold kindOf
          rw [if_pos (by omega)]
        rw [this]
        exact ⟨rfl, rfl⟩
      · have e : ¬ n = 9 := fun q => h (decide_eq_true (by rw [q]; rfl))
        have : kindOf n = n := by
          unfold kindOf
          rw [if_neg e]
        rw [this]
        exact ⟨_, rfl, rfl, rfl⟩
      · subst e eH
        have dj : decide (V.int (0 + (j : Int)) = V.int (kindOf n : Int)) = decide (kindOf n = j) := by
          by_cases c : kindOf n = j
          · rw [decide_eq_true c, decide_eq_true (by rw [c]; congr 1; omega)]
          · rw [decide_eq_false c, decide_eq_false fun q => c (by have := V.int.inj q; omega)]
        refine ⟨rfl, ?_⟩
        rw [dj]
        refine ⟨_, rfl, ite2 (fun h => ?_) fun h => ?_⟩
        · have e : sortK (kindOf n) j = true := by
            unfold sortK
            rw [h]
            rfl
          have := kq _ (Same.refl _)
          rw [e] at this
          exact this
        · have hf : decide (kindOf n = j) = false := Bool.eq_false_iff.mpr h
          have d1 : decide (V.int (0 + (j : Int)) = V.int 1) = decide (j = 1) := by
            by_cases c : j = 1
            · rw [decide_eq_true c, decide_eq_true (by rw [c]; rfl)]
            · rw [decide_eq_false c, decide_eq_false fun q => c (by have := V.int.inj q; omega)]
          refine ⟨_, rfl, rfl, ?_⟩
          rw [d1]
          refine ⟨_, rfl, ite2 (fun h1 => ?_) fun h1 => ?_⟩
          · have j1 : j = 1 := of_decide_eq_true h1
            subst j1
            refine ⟨_, rfl, (by show 3 ≤ sizeLine; decide), fun p8 H8 n8 s8 h8 => ⟨p8, _, rfl, .inl (SqL.of h8), rfl, rfl, ?_⟩⟩
            rw [in3 n hn (of_decide_eq_false hf)]
            exact kq _ s8
          · have e : sortK (kindOf n) j = false := by
              unfold sortK
              rw [hf, Bool.eq_false_iff.mpr h1, decide_eq_false (show ¬ j = 10 by omega)]
              rfl
            have := kq _ (Same.refl _)
            rw [e] at this
            exact this
    · have s16 := s14.trans s6
      have dd : H6 D = some (.lst ((bsL (kindOf n)).map V.bl)) := by
        rw [dd, bsL, List.map_map]
        rfl
      refine ⟨_, rfl, a, kindOf n, dx, _, rfl, s6 _ _ (s4 _ _ (s3 _ _ (s2 _ _ hi))), kl, ?_⟩
      rw [is10]
      refine ⟨_, rfl, iteT ?_⟩
      refine ⟨_, rfl, a, _, _, rfl, hs.same s16, fun r2 H8 s8 n8 h8 => ?_⟩
      have h8 : H8 r2 = some (.lst ((bsL (kindOf n)).map V.bl)) := by
        rw [h8, bsL, List.map_map]
        rfl
      refine ⟨_, rfl, .list ((bsL (kindOf n)).map .bool), .list ((bsL (kindOf n)).map .bool), .lst (SqL.of h8) (dp_bls _), .lst (SqL.of (s8 _ _ dd)) (dp_bls _), bls_sh _, bls_sh _, ?_⟩
      rw [SeqAt.eqv_refl _ (SeqAt.canLay_of_shaped (bls_sh _))]
      exact k H8 (s16.trans s8)
theorem ok_law_unlike {f : Addr} {fd : FuncData} (F : Fun K "_law_unlike" "_law_unlike" s__law_unlike f fd) (T : Ta mg) (EQ : EqF P w K mg base 1 (KnS Z) ["self", "other"] (spSEq K Z)) : FnG P w K mg base 10 f fd ["_law_made", "_law_line"] (spUnlike Z) := by
  refine okG F sc__law_unlike (fun vs H Q E h => ?_) (fun cdv A outer s H vs Q hr h => ?_)
  · obtain ⟨a, κ, l, rfl, _⟩ := h
    rfl
  · obtain ⟨a, κ, l, rfl, ha, k⟩ := h
    refine ⟨_, (pss_one (ps_ret (pe_cmpR (op_eqD hr.units) (pe_lc (own := [("_law_other", 2)]) (g := gName 2) rfl sc__law_unlike.nd (pi_list (pe_lstS (pa_cons (pv 1) (pa_cons (pe_tupS (pa_cons (pv 1) pa_nil)) (pa_cons (pe_lstS (pa_cons (pv 1) pa_nil)) (pa_cons pe_non (pa_cons pe_int (pa_cons pe_bl pa_nil)))))))) (blkOk_by (own := [("_law_other", 2)]) (N := n__law_unlike) (sc := defScope s__law_unlike) (by decide +kernel)) (fun _ _ _ _ _ => pg_name (i := 2) sc__law_unlike.nd rfl (Or.inl rfl)) (fun _ _ _ _ _ => (pts_one (PW.pt (pw_or (pt_cmpR (op_eqF (K := K) rfl EQ hr (by decide)) (pv 0) (pv 2) (nomark _)) (pw_or1 (pt_not (pt_cmpR (op_neF (K := K) rfl EQ hr (by decide)) (pv 0) (pv 2) (nomark _)))))))) (fun _ _ _ _ _ => (pv 2))) (pe_lstS pa_nil) (nomark _)))), ?_⟩
    refine ⟨_, rfl, _, rfl, (by show 1 ≤ sizeLine; decide), fun pt H1 nt s1 ht => ⟨_, rfl, (by show 1 ≤ sizeLine; decide), fun pl H2 nl s2 hl => ⟨(by show 6 ≤ sizeLine; decide), fun p H3 np s3 hp => ?_⟩⟩⟩
    have s13 := (s1.trans s2).trans s3
    refine ⟨p, rfl, ⟨_, SqL.of hp⟩, fun D hD => lc_it walk_list (fun j H' => Same H3 H' ∧ H' D = some (.lst [])) ⟨Same.new hD, upd_same⟩ (fun j H' _ ⟨s', _⟩ => SqL.of (s' _ _ hp)) (fun j x H9 H10 hj ⟨s9, d9⟩ y => ?_) fun H9 ⟨s9, d9⟩ => ?_⟩
    · obtain ⟨rfl, hx⟩ := y
      have hs9 := (ha.same s13).same s9
      have key : ∃ tn, tn ∈ othS ∧ TyX K H10 x (.type tn) := by
        match j, hx with
        | 0, hx =>
          cases hx
          exact ⟨"str", by decide, .base (.str _)⟩
        | 1, hx =>
          cases hx
          exact ⟨"tuple", by decide, .base (.tup (s9 _ _ (s3 _ _ (s2 _ _ ht))))⟩
        | 2, hx =>
          cases hx
          exact ⟨"list", by decide, .base (.lst (s9 _ _ (s3 _ _ hl)))⟩
        | 3, hx =>
          cases hx
          exact ⟨"NoneType", by decide, .base .non⟩
        | 4, hx =>
          cases hx
          exact ⟨"int", by decide, .base (.int 0)⟩
        | 5, hx =>
          cases hx
          exact ⟨"bool", by decide, .base (.bl true)⟩
        | j + 6, hx => simp at hx
      obtain ⟨tn, mt, ty⟩ := key
      refine ⟨rfl, _, rfl, _, rfl, a, rfl, hs9.insK, ⟨a, x, κ, l, rfl, hs9, .inr ⟨⟨tn, mt, ty⟩, ?_⟩⟩, .inr ⟨tn, mt, ty⟩⟩
      refine ⟨_, rfl, iteF ?_⟩
      refine ⟨_, rfl, _, rfl, a, rfl, hs9.insK, ⟨a, x, κ, l, rfl, hs9, .inr ⟨⟨tn, mt, ty⟩, false, rfl, ?_⟩⟩, .inr ⟨tn, mt, ty⟩⟩
      exact ⟨_, rfl, iteF ⟨s9, d9⟩⟩
    · refine ⟨Nat.zero_le _, fun p4 H11 n4 s4 h4 => ⟨.list [], .list [], .lst (SqL.of (s4 _ _ d9)) .nil, .lst (SqL.of h4) .nil, rfl, rfl, ?_⟩⟩
      exact k H11 ((s13.trans s9).trans s4)
end
end Lw

/-! ## StJ -/
set_option maxHeartbeats 1000000
namespace Lw
open PySem PySem.Spec PyProof.Rows L2
open Fm (cf Asc Nm)
abbrev s__law_right : Stmt := topS 88
abbrev n__law_right : List Str := ["_law_purse_here", "_law_tags", "_law_symbols", "_law_terms", "_law_turn", "_law_code", "_law_said", "_law_each", "_law_some", "_law_again", "_law_line", "_law_made", "_law_twins", "_law_due_here", "_law_spot", "_law_k", "_law_told"]
theorem sc__law_right : FnScope n__law_right ["_law_purse_here"] (defScope s__law_right) := ⟨rfl, rfl, rfl, by decide +kernel, rfl, by decide +kernel, by decide +kernel⟩
abbrev s_law : Stmt := topS 89
abbrev n_law : List Str := ["_law_script", "_law_k"]
theorem sc_law : FnScope n_law ["_law_script"] (defScope s_law) := ⟨rfl, rfl, rfl, by decide +kernel, rfl, by decide +kernel, by decide +kernel⟩
theorem lc_forms {J : It} {n : Nat} {G : Hp → Prop} {Y : Nat → Hp → V → Hp → Prop} (w : Walk J n G Y) {C : Addr} (tf : Nat → Tms) {g : TG} {te : TE} {vs : List Nat} {σ : L2.St} {H1 : Hp} {D : Addr} {Qd : Hp → Prop} (hn : n ≤ 1000) (hD : H1 D = none)
    (hG : ∀ H', Same H1 H' → G H')
    (hs : ∀ i x H H' (Q' : VK), i < n → Same H1 H → Y i H x H' → (∀ a H4, Same H H4 → FormAt C H4 a (tf i) → Q' (.ref a) H4) → g x (wipe σ vs) H' fun σ2 H2 => wipe σ2 vs = wipe σ vs ∧ te σ2 H2 Q')
    (hd : ∀ H' (fs : List Addr), Same H1 H' → H' D = some (.lst (fs.map V.ref)) → fs.length = n → (∀ i f, fs[i]? = some f → FormAt C H' f (tf i)) → Qd H') :
    ∃ W : Nat → Nat → Hp → Prop, (∃ m, W 0 m (upd H1 D (.lst []))) ∧ ∀ i m H, W i m H →
      (J.stop i H ∧ Qd H) ∨ (J.go i H ∧ ∃ Nx : Hp → Prop, (∀ H', Nx H' → ∃ m', m' < m ∧ W (i + 1) m' H') ∧ ∀ x H', J.yld i H x H' → g x (wipe σ vs) H' fun σ2 H2 => wipe σ2 vs = wipe σ vs ∧ tYes σ2 H2 fun b H3 =>
        if b = true then te σ2 H3 fun y H4 => ∃ acc, H4 D = some (.lst acc) ∧ acc.length < sizeLine ∧ Nx (upd H4 D (.lst (acc ++ [y]))) else Nx H3) := by
  refine lc_it w (tt := tYes) (fun i H => ∃ fs : List Addr, Same H1 H ∧ H D = some (.lst (fs.map V.ref)) ∧ fs.length = i ∧ ∀ j f, fs[j]? = some f → FormAt C H f (tf j)) ⟨[], Same.new hD, upd_same, rfl, fun j y e => by simp at e⟩ (fun i H _ ⟨_, s, _⟩ => hG H s) (fun i x H H' hi ⟨fs, s, d, l, r⟩ y => ?_) fun H ⟨fs, s, d, l, r⟩ => hd H fs s d l r
  show g x (wipe σ vs) H' fun σ2 H2 => wipe σ2 vs = wipe σ vs ∧ te σ2 H2 fun y H4 => _
  refine hs i x H H' _ hi s y fun a H4 s4 ha => ?_
  have d4 := s4 _ _ d
  refine ⟨_, d4, ?_, fs ++ [a], fun b o q => ?_, ?_, ?_, fun j f e => ?_⟩
  · rw [List.length_map]
    exact Nat.lt_of_lt_of_le (show fs.length < 1001 by omega) (by decide)
  · rw [upd_ne (ne_of_none q hD)]
    exact s4 _ _ (s _ _ q)
  · rw [upd_same, List.map_append]
    rfl
  · rw [List.length_append, l]
    rfl
  · have np := NoLs.put (o := .lst (fs.map V.ref ++ [V.ref a])) d4
    rcases Nat.lt_trichotomy j fs.length with c | c | c
    · rw [List.getElem?_append_left c] at e
      exact FormAt.nol ((r j f e).same s4) np
    · rw [c, List.getElem?_append_right (Nat.le_refl _), Nat.sub_self] at e
      cases e
      rw [c, l]
      exact FormAt.nol ha np
    · rw [List.getElem?_eq_none (by simp; omega)] at e
      cases e
theorem three_of {α : Type} {l : List α} (h : l.length = 3) : ∃ a b c, l = [a, b, c] := by
  match l, h with
  | [a, b, c], _ => exact ⟨a, b, c, rfl⟩
theorem LTerms.off {a p : Addr} {G G' : Hp} {n : Int} {t : Tms} (h : LTerms G p t) (pu : PurseAt G a n) (s : OffP a G G') (pa : p ≠ a) : LTerms G' p t := by
  obtain ⟨ps, h1, h2⟩ := h
  exact ⟨ps, s _ _ pa h1, h2.off pu s⟩
theorem LTerms.put {D p : Addr} {G : Hp} {xs : List V} {o : HO} {t : Tms} (h : LTerms G p t) (hD : G D = some (.lst xs)) (pD : p ≠ D) : LTerms (upd G D o) p t := by
  obtain ⟨ps, h1, h2⟩ := h
  exact ⟨ps, by rw [upd_ne pD]; exact h1, h2.tups fun b z e => by
    rw [upd_ne (fun q => by rw [q, hD] at e; cases e)]
    exact e⟩
/-- the terms drawn so far -/
def TInv (H : Hp) (a D p1 p2 : Addr) (zs ys : List Str) (j : Nat) (G : Hp) : Prop := ∃ (ps : List Addr) (ts : List Tms), Spent a 0 (120 + 10 * (j : Int)) H G ∧ G p1 = some (.lst (zs.map V.str)) ∧ G p2 = some (.lst (ys.map V.str)) ∧ G D = some (.lst (ps.map V.ref)) ∧ ps.length = j ∧ ts.length = j ∧
  ∀ (i : Nat) (p : Addr) (t : Tms), ps[i]? = some p → ts[i]? = some t → LTerms G p t ∧ NT t ∧ p ≠ D ∧ p ≠ a
theorem line_same {d : Dt} {g1 g2 g3 : Addr} {s : Nat} (hs : s < 10) : lineOf { d with f1 := g1, f2 := g2, f3 := g3 } s = lineOf d s := by
  match s, hs with
  | 0, _ => rfl
  | 1, _ => rfl
  | 2, _ => rfl
  | 3, _ => rfl
  | 4, _ => rfl
  | 5, _ => rfl
  | 6, _ => rfl
  | 7, _ => rfl
  | 8, _ => rfl
  | 9, _ => rfl
theorem due_same {d : Dt} {g1 g2 g3 : Addr} : dueL { d with f1 := g1, f2 := g2, f3 := g3 } = dueL d := rfl
/-- what stands when all is made -/
structure AllMade (Hz : Hp) (az : Addr) (Z : Sz) (H : Hp) (d : Dt) (g1 g2 g3 p1 D3 D4 r1 r2 r3 : Addr) (as bs : List Addr) : Prop where
  off : OffP az Hz H
  dk : DtOk Z H d
  dk2 : DtOk Z H { d with f1 := g1, f2 := g2, f3 := g3 }
  tags : H p1 = some (.lst [.str d.n1, .str d.n2])
  some_ : H D3 = some (.lst [.ref d.f1, .ref d.f2, .ref d.f3])
  again : H D4 = some (.lst [.ref g1, .ref g2, .ref g3])
  made : H r1 = some (.lst (as.map V.ref))
  twins : H r2 = some (.lst (bs.map V.ref))
  due : H r3 = some (.lst ((dueL d).map V.str))
  ten : TenAt Z H d as
  ten2 : TenAt Z H { d with f1 := g1, f2 := g2, f3 := g3 } bs
theorem AllMade.same {Hz : Hp} {az : Addr} {Z : Sz} {H H' : Hp} {d : Dt} {g1 g2 g3 p1 D3 D4 r1 r2 r3 : Addr} {as bs : List Addr} (h : AllMade Hz az Z H d g1 g2 g3 p1 D3 D4 r1 r2 r3 as bs) (s : Same H H') : AllMade Hz az Z H' d g1 g2 g3 p1 D3 D4 r1 r2 r3 as bs :=
  ⟨h.off.trans (.of s), h.dk.same s, h.dk2.same s, s _ _ h.tags, s _ _ h.some_, s _ _ h.again, s _ _ h.made, s _ _ h.twins, s _ _ h.due, h.ten.same s, h.ten2.same s⟩
theorem due_at (d : Dt) {s : Nat} (hs : s < 10) : (dueL d)[s]? = some (lineOf d s) := by
  match s, hs with
  | 0, _ => rfl
  | 1, _ => rfl
  | 2, _ => rfl
  | 3, _ => rfl
  | 4, _ => rfl
  | 5, _ => rfl
  | 6, _ => rfl
  | 7, _ => rfl
  | 8, _ => rfl
  | 9, _ => rfl
theorem oth_st {K : PySem.W.Frag} {Z : Sz} {H : Hp} {a b : Addr} {κ κ' : Nat} {l l' : Str} {R : VK} (h1 : SAt Z H a κ l) (h2 : SAt Z H b κ' l') (k : R (.bl (decide (l = l'))) H) : Oth2 K (KnS Z) (spSEq K Z) a (.ref b) H R :=
  ⟨⟨a, .ref b, κ, l, rfl, h1, .inl ⟨b, κ', l', rfl, h2, k⟩⟩, .inl ⟨b, rfl, h2.insK, b, .ref a, κ', l', rfl, h2, .inl ⟨a, κ, l, rfl, h1, by
    have e : decide (l' = l) = decide (l = l') := by
      by_cases c : l = l'
      · rw [decide_eq_true c, decide_eq_true c.symm]
      · rw [decide_eq_false c, decide_eq_false fun q => c q.symm]
    rw [e]
    exact k⟩⟩⟩
/-! ### the arguments, shown -/
def rolesOf : Nat → List Nat
  | 0 => [1, 3]
  | 5 => [1, 4, 5]
  | 7 => [1, 4, 5, 6]
  | 8 => [1, 3]
  | 9 => [2, 5, 1, 3, 4]
  | _ => [1, 3, 2, 4, 5]
def valR (d : Dt) : Nat → V
  | 1 => .str d.n1
  | 2 => .str d.n2
  | 3 => .ref d.f1
  | 4 => .ref d.f2
  | 5 => .ref d.f3
  | _ => .int d.i
def txtR (d : Dt) : Nat → Str
  | 1 => reprText d.n1
  | 2 => reprText d.n2
  | 3 => reprF d.t1
  | 4 => reprF d.t2
  | 5 => reprF d.t3
  | _ => Str.ofString (toString d.i)
theorem args_roles (d : Dt) {s : Nat} (hs : s < 10) : argsOf d s = (rolesOf s).map (valR d) := by
  match s, hs with
  | 0, _ => rfl
  | 1, _ => rfl
  | 2, _ => rfl
  | 3, _ => rfl
  | 4, _ => rfl
  | 5, _ => rfl
  | 6, _ => rfl
  | 7, _ => rfl
  | 8, _ => rfl
  | 9, _ => rfl
theorem roles_len {s : Nat} (hs : s < 10) : (rolesOf s).length ≤ 5 ∧ rolesOf s ≠ [] := by
  match s, hs with
  | 0, _ => exact ⟨by decide, by decide⟩
  | 1, _ => exact ⟨by decide, by decide⟩
  | 2, _ => exact ⟨by decide, by decide⟩
  | 3, _ => exact ⟨by decide, by decide⟩
  | 4, _ => exact ⟨by decide, by decide⟩
  | 5, _ => exact ⟨by decide, by decide⟩
  | 6, _ => exact ⟨by decide, by decide⟩
  | 7, _ => exact ⟨by decide, by decide⟩
  | 8, _ => exact ⟨by decide, by decide⟩
  | 9, _ => exact ⟨by decide, by decide⟩
theorem rF_len {ts : Tms} (h : NT ts) : (reprF ts).length ≤ 6000 := by
  have := h.t5
  have e : (Str.ofString "Form(").length = 5 := by decide
  unfold reprF
  simp only [strLen_append, emp_len, e, l_cp]
  omega
theorem nT_len {z : Str} (h : Na z) : (reprText z).length ≤ 6000 := by
  have := StrLaws.reprText_len z (ok_small h.oks.strOk)
  have := h.len
  omega
theorem txt_len {d : Dt} (h : DtT d) (r : Nat) : (txtR d r).length ≤ 6000 := by
  have il := ilen h.i
  unfold txtR
  split
  · exact nT_len h.n1
  · exact nT_len h.n2
  · exact rF_len h.t1
  · exact rF_len h.t2
  · exact rF_len h.t3
  · omega
theorem sum6 {d : Dt} (h : DtT d) : ∀ l : List Nat, ((l.map (txtR d)).map (·.length)).sum ≤ 6000 * l.length
  | [] => Nat.le_refl _
  | r :: l => by
    have := sum6 h l
    have := txt_len h r
    simp only [List.map_cons, List.sum_cons, List.length_cons] at *
    omega
theorem txts_fit {d : Dt} (h : DtT d) {s : Nat} (hs : s < 10) : (listText ((rolesOf s).map (txtR d))).length ≤ sizeLine := by
  have e := listText_len_le ((rolesOf s).map (txtR d))
  have := sum6 h (rolesOf s)
  have := (roles_len hs).1
  rw [List.length_map] at e
  exact Nat.le_trans (show _ ≤ 100000 by omega) (by decide)
theorem it_role {Z : Sz} {H : Hp} {d : Dt} (h : DtOk Z H d) (r : Nat) : ItR Z.form (spReprF Z.form) H (valR d r) (txtR d r) := by
  have own : ∀ {x : Addr} {ts : Tms}, FormAt Z.form H x ts → NT ts → ItR Z.form (spReprF Z.form) H (.ref x) (reprF ts) := fun {x ts} hx n => .inr (.inr ⟨x, rfl, hx.is, Nat.le_trans (rF_len n) (by decide), fun H' s => ⟨x, ts, rfl, hx.same s, n.bd, n.rd.sy, fun H'' s2 => ⟨rfl, s2⟩⟩⟩)
  have nm : ∀ {z : Str}, Na z → ItR Z.form (spReprF Z.form) H (.str z) (reprText z) := fun {z} n => .inl ⟨z, rfl, rfl, Nat.le_trans (nT_len n) (by decide)⟩
  unfold valR txtR
  split
  · exact nm h.n1
  · exact nm h.n2
  · exact own h.g1 h.t1
  · exact own h.g2 h.t2
  · exact own h.g3 h.t3
  · exact .inr (.inl ⟨d.i, rfl, rfl, ilog h.i⟩)
theorem its_args {Z : Sz} {H : Hp} {d : Dt} (h : DtOk Z H d) {s : Nat} (hs : s < 10) : ∀ (i : Nat) (y : V) (z : Str), (argsOf d s)[i]? = some y → ((rolesOf s).map (txtR d))[i]? = some z → ItR Z.form (spReprF Z.form) H y z := fun i y z e1 e2 => by
  rw [args_roles d hs, List.getElem?_map] at e1
  rw [List.getElem?_map] at e2
  obtain ⟨r, hr, rfl⟩ := Option.map_eq_some_iff.mp e1
  rw [hr] at e2
  cases e2
  exact it_role h r
theorem rep_facts {Z : Sz} {H : Hp} {d : Dt} (h : DtOk Z H d) {s : Nat} (hs : s < 10) : argsOf d s ≠ [] ∧ (argsOf d s).length ≤ 100 ∧ ((rolesOf s).map (txtR d)).length = (argsOf d s).length := by
  have l := roles_len hs
  have e : (argsOf d s).length = (rolesOf s).length := by rw [args_roles d hs, List.length_map]
  exact ⟨fun q => l.2 (List.length_eq_zero_iff.mp (by rw [← e, q]; rfl)), by omega, by rw [List.length_map, e]⟩
theorem two_bl (b : Bool) : (PyData.list [.bool b, .bool (!b)]).shown.length ≤ sizeLine := by
  cases b <;> decide +kernel
theorem dec_str (l l' : Str) : decide (V.str l = V.str l') = decide (l = l') := by
  by_cases c : l = l'
  · rw [decide_eq_true c, decide_eq_true (by rw [c])]
  · rw [decide_eq_false c, decide_eq_false fun q => c (V.str.inj q)]
def spRight : Sp := fun vs H Q _ => ∃ a, vs = [.ref a] ∧ PurseAt H a 0 ∧ ∀ H', OffP a H H' → Q (.bl true) H'
section
variable {P : Program} {w : World} {K : PySem.W.Frag} {mg : Str → Option Value} {base : Heap} {Z : Sz}
variable (c__law_take : Cal P w K mg base 1 "_law_take" ["_law_purse_here", "_law_many"] spTake) (c__law_names : Cal P w K mg base 4 "_law_names" ["_law_purse_here", "_law_many"] spNamesP) (c__law_form : Cal P w K mg base 2 "_law_form" ["_law_purse_here", "_law_symbols"] spFormP)
  (c__law_say : Cal P w K mg base 1 "_law_say" ["_law_terms"] spSay) (C0 : Fc K mg Z.form) (M_read : StM P w K mg base 8 Z.form "read" ["text"] (spIn Z.form)) (c__law_by_place : Cal P w K mg base 11 "_law_by_place" ["_law_tags", "_law_some", "_law_code"] (spTen K Z)) (c__law_by_name : Cal P w K mg base 11 "_law_by_name" ["_law_tags", "_law_some", "_law_code"] (spTen K Z))
  (c__law_due : Cal P w K mg base 1 "_law_due" ["_law_tags", "_law_said", "_law_code"] (spDue K)) (c__law_one_right : Cal P w K mg base 10 "_law_one_right" ["_law_made", "_law_line", "_law_spot"] (spOne Z)) (c__law_arguments : Cal P w K mg base 1 "_law_arguments" ["_law_made", "_law_spot"] (spArgs Z)) (c__law_arguments_due : Cal P w K mg base 1 "_law_arguments_due" ["_law_tags", "_law_some", "_law_code", "_law_spot"] spArgsDue)
  (c__law_unlike : Cal P w K mg base 10 "_law_unlike" ["_law_made", "_law_line"] (spUnlike Z)) (M_reprK : MtK P w K mg base 7 Z.form "__repr__" ["self"] (spReprF Z.form)) (EQ : EqF P w K mg base 1 (KnS Z) ["self", "other"] (spSEq K Z))
include c__law_take c__law_names c__law_form c__law_say C0 M_read c__law_by_place c__law_by_name c__law_due c__law_one_right c__law_arguments c__law_arguments_due c__law_unlike M_reprK EQ
theorem ok_law_right {f : Addr} {fd : FuncData} (F : Fun K "_law_right" "_law_right" s__law_right f fd) (T : Ta mg) : FnG P w K mg base 14 f fd ["_law_purse_here"] spRight := by
  refine okG F sc__law_right (fun vs H Q E h => ?_) (fun cdv A outer s H vs Q hr h => ?_)
  · obtain ⟨a, rfl, _⟩ := h
    rfl
  · obtain ⟨a, rfl, hp, k⟩ := h
    refine ⟨_, (pss_cons (ps_asg (pe_tupS (pa_cons (pe_c c__law_names hr (by decide) rfl (pa_cons (pv 0) (pa_cons pe_int pa_nil))) (pa_cons (pe_c c__law_names hr (by decide) rfl (pa_cons (pv 0) (pa_cons pe_int pa_nil))) pa_nil))) (pg_tup rfl (pgs_cons (pg_name (i := 1) sc__law_right.nd rfl (by first | exact .inl rfl | exact .inr rfl)) (pgs_cons (pg_name (i := 2) sc__law_right.nd rfl (by first | exact .inl rfl | exact .inr rfl)) pgs_nil))))
  (pss_cons (ps_setLc (i := 3) (own := [("_law_turn", 4)]) (g := gName 4) (tt := tYes) rfl sc__law_right.nd rfl rfl (sw_true rfl rfl rfl (by decide +kernel)) (pi_range1 rfl T.b_range (pa_cons pe_int pa_nil)) (blkOk_by (own := [("_law_turn", 4)]) (N := n__law_right) (sc := defScope s__law_right) (by decide +kernel)) (fun _ _ _ _ _ => pg_name (i := 4) sc__law_right.nd rfl (Or.inl rfl)) (fun _ _ _ _ _ => pts_nil) (fun _ _ _ _ _ => (pe_c c__law_form hr (by decide) rfl (pa_cons (pv 0) (pa_cons (pv 2) pa_nil)))))
  (pss_cons (ps_set (i := 5) sc__law_right.nd rfl (by first | exact .inl rfl | exact .inr rfl) (pe_ix ix_list (pe_lstS (pa_cons pe_int (pa_cons pe_int (pa_cons (pe_un un_neg pe_int) (pa_cons (pe_op op_pow pe_int pe_int) (pa_cons (pe_un un_neg (pe_op op_pow pe_int pe_int)) (pa_cons (pe_op op_sub (pe_c c__law_take hr (by decide) rfl (pa_cons (pv 0) (pa_cons pe_int pa_nil))) pe_int) pa_nil))))))) (pe_c c__law_take hr (by decide) rfl (pa_cons (pv 0) (pa_cons pe_int pa_nil))) (fun _ _ => rfl)))
  (pss_cons (ps_setLc (i := 6) (own := [("_law_each", 7)]) (g := gName 7) (tt := tYes) rfl sc__law_right.nd rfl rfl (sw_true rfl rfl rfl (by decide +kernel)) (pi_list (pv 3)) (blkOk_by (own := [("_law_each", 7)]) (N := n__law_right) (sc := defScope s__law_right) (by decide +kernel)) (fun _ _ _ _ _ => pg_name (i := 7) sc__law_right.nd rfl (Or.inl rfl)) (fun _ _ _ _ _ => pts_nil) (fun _ _ _ _ _ => (pe_c c__law_say hr (by decide) rfl (pa_cons (pv 7) pa_nil))))
  (pss_cons (ps_par (i := 8) (j := 9) (by rfl) sc__law_right.nd rfl rfl (by decide) rfl rfl (pa_cons (pe_lc (own := [("_law_line", 10)]) (g := gName 10) (tt := tYes) rfl sc__law_right.nd (pi_list (pv 6)) (blkOk_by (own := [("_law_line", 10)]) (N := n__law_right) (sc := defScope s__law_right) (by decide +kernel)) (fun _ _ _ _ _ => pg_name (i := 10) sc__law_right.nd rfl (Or.inl rfl)) (fun _ _ _ _ _ => pts_nil) (fun _ _ _ _ _ => (pe_sm (pe_gl (v := .ref Z.form) rfl C0.g_Form) M_read hr (by decide) (pa_cons (pv 10) pa_nil)))) (pa_cons (pe_lc (own := [("_law_line", 10)]) (g := gName 10) (tt := tYes) rfl sc__law_right.nd (pi_list (pv 6)) (blkOk_by (own := [("_law_line", 10)]) (N := n__law_right) (sc := defScope s__law_right) (by decide +kernel)) (fun _ _ _ _ _ => pg_name (i := 10) sc__law_right.nd rfl (Or.inl rfl)) (fun _ _ _ _ _ => pts_nil) (fun _ _ _ _ _ => (pe_sm (pe_gl (v := .ref Z.form) rfl C0.g_Form) M_read hr (by decide) (pa_cons (pv 10) pa_nil)))) pa_nil)) (by rfl))
  (pss_cons (ps_par (i := 11) (j := 12) (by rfl) sc__law_right.nd rfl rfl (by decide) rfl rfl (pa_cons (pe_c c__law_by_place hr (by decide) rfl (pa_cons (pv 1) (pa_cons (pv 8) (pa_cons (pv 5) pa_nil)))) (pa_cons (pe_c c__law_by_name hr (by decide) rfl (pa_cons (pv 1) (pa_cons (pv 9) (pa_cons (pv 5) pa_nil)))) pa_nil)) (by rfl))
  (pss_cons (ps_set (i := 13) sc__law_right.nd rfl (by first | exact .inl rfl | exact .inr rfl) (pe_c c__law_due hr (by decide) rfl (pa_cons (pv 1) (pa_cons (pv 6) (pa_cons (pv 5) pa_nil)))))
  (pss_cons (ps_for PassesOwn.never rfl (pi_range1 rfl T.b_range (pa_cons pe_int pa_nil)) (pg_name (i := 14) sc__law_right.nd rfl (by first | exact .inl rfl | exact .inr rfl))
    (pss_cons (ps_if (PW.pt (pw_or (pt_not (pt_val (pe_c c__law_one_right hr (by decide) rfl (pa_cons (pe_ix ix_list (pv 11) (pv 14) (fun _ _ => rfl)) (pa_cons (pe_ix ix_list (pv 13) (pv 14) (fun _ _ => rfl)) (pa_cons (pv 14) pa_nil)))))) (pw_or1 (pt_not (pt_val (pe_c c__law_one_right hr (by decide) rfl (pa_cons (pe_ix ix_list (pv 12) (pv 14) (fun _ _ => rfl)) (pa_cons (pe_ix ix_list (pv 13) (pv 14) (fun _ _ => rfl)) (pa_cons (pv 14) pa_nil)))))))))
    (pss_one (ps_ret pe_bl))
    pss_nil)
  (pss_cons (ps_if (pt_cmpR op_ne (pe_callB (call_reprLK M_reprK hr.gd hr.rm (by decide)) (by rfl) T.b_repr (by decide +kernel) (pa_cons (pe_c c__law_arguments hr (by decide) rfl (pa_cons (pe_ix ix_list (pv 11) (pv 14) (fun _ _ => rfl)) (pa_cons (pv 14) pa_nil))) pa_nil)) (pe_callB (call_reprLK M_reprK hr.gd hr.rm (by decide)) (by rfl) T.b_repr (by decide +kernel) (pa_cons (pe_c c__law_arguments_due hr (by decide) rfl (pa_cons (pv 1) (pa_cons (pv 8) (pa_cons (pv 5) (pa_cons (pv 14) pa_nil))))) pa_nil)) (nomark _))
    (pss_one (ps_ret pe_bl))
    pss_nil)
  (pss_cons (ps_if (pt_cmpR op_ne (pe_callB (call_reprLK M_reprK hr.gd hr.rm (by decide)) (by rfl) T.b_repr (by decide +kernel) (pa_cons (pe_c c__law_arguments hr (by decide) rfl (pa_cons (pe_ix ix_list (pv 12) (pv 14) (fun _ _ => rfl)) (pa_cons (pv 14) pa_nil))) pa_nil)) (pe_callB (call_reprLK M_reprK hr.gd hr.rm (by decide)) (by rfl) T.b_repr (by decide +kernel) (pa_cons (pe_c c__law_arguments_due hr (by decide) rfl (pa_cons (pv 1) (pa_cons (pv 9) (pa_cons (pv 5) (pa_cons (pv 14) pa_nil))))) pa_nil)) (nomark _))
    (pss_one (ps_ret pe_bl))
    pss_nil)
  (pss_cons (ps_for PassesOwn.never rfl (pi_range1 rfl T.b_range (pa_cons pe_int pa_nil)) (pg_name (i := 15) sc__law_right.nd rfl (by first | exact .inl rfl | exact .inr rfl))
    (pss_cons (ps_set (i := 16) sc__law_right.nd rfl (by first | exact .inl rfl | exact .inr rfl) (pe_lstS (pa_cons (pe_cmpR (op_eqF (K := K) rfl EQ hr (by decide)) (pe_ix ix_list (pv 11) (pv 14) (fun _ _ => rfl)) (pe_ix ix_list (pv 12) (pv 15) (fun _ _ => rfl)) (nomark _)) (pa_cons (pe_cmpR (op_neF (K := K) rfl EQ hr (by decide)) (pe_ix ix_list (pv 11) (pv 14) (fun _ _ => rfl)) (pe_ix ix_list (pv 12) (pv 15) (fun _ _ => rfl)) (nomark _)) pa_nil))))
  (pss_one (ps_if (pt_cmpR op_ne (pe_callB (call_repr hr) (by rfl) T.b_repr (by decide +kernel) (pa_cons (pv 16) pa_nil)) (pe_callB (call_repr hr) (by rfl) T.b_repr (by decide +kernel) (pa_cons (pe_lstS (pa_cons (pe_cmpR op_eq (pe_ix ix_list (pv 13) (pv 14) (fun _ _ => rfl)) (pe_ix ix_list (pv 13) (pv 15) (fun _ _ => rfl)) (nomark _)) (pa_cons (pe_cmpR op_ne (pe_ix ix_list (pv 13) (pv 14) (fun _ _ => rfl)) (pe_ix ix_list (pv 13) (pv 15) (fun _ _ => rfl)) (nomark _)) pa_nil))) pa_nil)) (nomark _))
    (pss_one (ps_ret pe_bl))
    pss_nil))))
  (pss_one (ps_if (pt_not (pt_val (pe_c c__law_unlike hr (by decide) rfl (pa_cons (pe_ix ix_list (pv 11) (pv 14) (fun _ _ => rfl)) (pa_cons (pe_ix ix_list (pv 13) (pv 14) (fun _ _ => rfl)) pa_nil)))))
    (pss_one (ps_ret pe_bl))
    pss_nil)))))))
  (pss_one (ps_ret pe_bl)))))))))), ?_⟩
    refine ⟨_, rfl, a, 0, 2, rfl, hp, by decide, by decide, by decide, fun zs p1 H1 lz oz q1 n1 h1 => ?_⟩
    refine ⟨_, rfl, a, 0 + 60, 5, rfl, q1.pu, by decide, by decide, by decide, fun ys p2 H2 ly oy q2 n2 h2 => ?_⟩
    refine ⟨(by show 2 ≤ sizeLine; decide), fun qt H3 nq s3 hq => ⟨qt, _, rfl, SqT.of hq, rfl, _, _, rfl, _, _, rfl, rfl, ?_⟩⟩
    have pa1 : p1 ≠ a := q1.pu.ne h1
    have pa2 : p2 ≠ a := q2.pu.ne h2
    have e1 : Spent a 0 120 H H3 := (q1.trans q2 (by decide)).same s3
    have h1 := s3 _ _ (q2.off _ _ pa1 h1)
    have h2 := s3 _ _ h2
    refine ⟨3, rfl, by decide, by decide, fun D hD => lc_it (walk_range (lo := 0) (n := 3)) (tt := tYes) (TInv H a D p1 p2 zs ys) ?_ (fun _ _ _ _ => True.intro) (fun j x G G' hj inv y => ?_) fun G inv => ?_⟩
    · exact ⟨[], [], (e1.same (Same.new hD)).le (by decide), by rw [upd_ne (ne_of_none h1 hD)]; exact h1, by rw [upd_ne (ne_of_none h2 hD)]; exact h2, upd_same, rfl, rfl, fun i p t e => by simp at e⟩
    · obtain ⟨ps, ts, e2, g1, g2, gD, lp, lt, hpt⟩ := inv
      obtain ⟨rfl, rfl⟩ := y
      have hDH : H D = none := e1.none hD
      have hDa : D ≠ a := fun q => by
        obtain ⟨_, _, _, ex, _⟩ := e1.pu.ex
        rw [← q, hD] at ex
        cases ex
      refine ⟨rfl, _, rfl, _, rfl, a, p2, _, ys, rfl, e2.pu, by omega, g2, ly, oy, fun r G4 t e4 nr lt4 nt4 => ?_⟩
      have gD4 := e4.off _ _ hDa gD
      have e5 := e2.trans e4 (e := 120 + 10 * ((j + 1 : Nat) : Int)) (by omega)
      have rD : r ≠ D := fun q => by
        rw [q, gD] at nr
        cases nr
      have ra : r ≠ a := fun q => by
        obtain ⟨_, _, _, ex, _⟩ := e2.pu.ex
        rw [← q, nr] at ex
        cases ex
      refine ⟨_, gD4, ?_, ps ++ [r], ts ++ [t], e5.put hDH hDa, ?_, ?_, ?_, ?_, ?_, fun i p u ep eu => ?_⟩
      · rw [List.length_map]
        exact Nat.lt_of_le_of_lt (show ps.length ≤ 3 by omega) (by decide)
      · rw [upd_ne (ne_of_none h1 hD)]
        exact e4.off _ _ pa1 g1
      · rw [upd_ne (ne_of_none h2 hD)]
        exact e4.off _ _ pa2 g2
      · rw [upd_same, List.map_append]
        rfl
      · rw [List.length_append, lp]
        rfl
      · rw [List.length_append, lt]
        rfl
      · rcases Nat.lt_trichotomy i ps.length with c | c | c
        · rw [List.getElem?_append_left c] at ep
          rw [List.getElem?_append_left (by omega)] at eu
          obtain ⟨x1, x2, x3, x4⟩ := hpt i p u ep eu
          exact ⟨(x1.off e2.pu e4.off x4).put gD4 x3, x2, x3, x4⟩
        · rw [c, List.getElem?_append_right (Nat.le_refl _), Nat.sub_self] at ep
          rw [show i = ts.length by omega, List.getElem?_append_right (Nat.le_refl _), Nat.sub_self] at eu
          cases ep
          cases eu
          exact ⟨lt4.put gD4 rD, nt4, rD, ra⟩
        · rw [List.getElem?_eq_none (by simp; omega)] at ep
          cases ep
    · obtain ⟨ps, ts, e2, g1, g2, gD, lp, lt, hpt⟩ := inv
      obtain ⟨c1, c2, c3, rfl⟩ := three_of lp
      obtain ⟨t1, t2, t3, rfl⟩ := three_of lt
      obtain ⟨l1, nt1, _⟩ := hpt 0 _ _ rfl rfl
      obtain ⟨l2, nt2, _⟩ := hpt 1 _ _ rfl rfl
      obtain ⟨l3, nt3, _⟩ := hpt 2 _ _ rfl rfl
      obtain ⟨m1, m2, rfl⟩ : ∃ a b, zs = [a, b] := by
        match zs, lz with
        | [a, b], _ => exact ⟨a, b, rfl⟩
      have na1 : Na m1 := oz _ List.mem_cons_self
      have na2 : Na m2 := oz _ (List.mem_cons_of_mem _ List.mem_cons_self)
      refine ⟨_, rfl, _, _, rfl, rfl, ⟨by decide, by decide, by decide⟩, _, _, rfl, rfl, ⟨by decide, by decide, by decide⟩, _, rfl, _, rfl, a, 1000, _, rfl, e2.pu, by decide, by decide, by decide, fun w1 G1 w10 w11 e3 => ?_⟩
      refine ⟨_, _, rfl, rfl, (by show 6 ≤ sizeLine; decide), fun pl G2 nl sl hl => ?_⟩
      have e23 := (e2.trans e3 (e := 151) (by decide)).same sl
      refine ⟨_, rfl, a, 6, _, rfl, e23.pu, by decide, by decide, by decide, fun w2 G3 w20 w21 e4 => ?_⟩
      have pla : pl ≠ a := fun q => by
        obtain ⟨_, _, _, ex, _⟩ := (e2.trans e3 (e := 151) (by decide)).pu.ex
        rw [← q, nl] at ex
        cases ex
      obtain ⟨v, f1, f2⟩ := at_int w20 (xs := [V.int 0, V.int 7, V.int (-1), V.int (10 ^ (39 : Int).toNat), V.int (-(10 ^ (39 : Int).toNat)), V.int (w1 - 500)]) w21
      obtain ⟨cd, rfl, cb⟩ : ∃ c : Int, v = .int c ∧ c.natAbs < 2 ^ 200 := by
        simp only [List.mem_cons, List.not_mem_nil, or_false] at f2
        rcases f2 with rfl | rfl | rfl | rfl | rfl | rfl
        · exact ⟨_, rfl, by decide +kernel⟩
        · exact ⟨_, rfl, by decide +kernel⟩
        · exact ⟨_, rfl, by decide +kernel⟩
        · exact ⟨_, rfl, by decide +kernel⟩
        · exact ⟨_, rfl, by decide +kernel⟩
        · exact ⟨_, rfl, Nat.lt_of_le_of_lt (show _ ≤ 1000 by omega) (by decide +kernel)⟩
      refine ⟨pl, _, w2, _, rfl, rfl, SqL.of (e4.off _ _ pla hl), f1, ?_⟩
      have hDH : H D = none := e1.none hD
      have hDa : D ≠ a := fun q => by
        obtain ⟨_, _, _, ex, _⟩ := e1.pu.ex
        rw [← q, hD] at ex
        cases ex
      have up : ∀ {p : Addr} {o : HO}, p ≠ a → G p = some o → G3 p = some o := fun pa h => e4.off _ _ pa (sl _ _ (e3.off _ _ pa h))
      have g1' := up pa1 g1
      have gD' := up hDa gD
      have upT : ∀ {p : Addr} {t : Tms}, p ≠ a → LTerms G p t → LTerms G3 p t := fun pa h => ((h.off e2.pu e3.off pa).same sl).off e23.pu e4.off pa
      have l1' := upT (hpt 0 _ _ rfl rfl).2.2.2 l1
      have l2' := upT (hpt 1 _ _ rfl rfl).2.2.2 l2
      have l3' := upT (hpt 2 _ _ rfl rfl).2.2.2 l3
      clear up upT hpt
      refine ⟨_, rfl, D, rfl, ⟨_, SqL.of gD'⟩, fun D2 hD2 => lc_fn walk_list (fun j => .str (Fm.textS ([t1, t2, t3].getD j []))) (by show 3 ≤ 1000; decide) hD2 (fun H' s' => SqL.of (s' _ _ gD')) (fun j x H6 H7 Q' hj s6 y kq => ?_) fun M1 u1 dd => ?_⟩
      · obtain ⟨rfl, hx⟩ := y
        match j, hj, hx with
        | 0, _, hx =>
          cases hx
          exact ⟨rfl, _, rfl, _, t1, rfl, LTerms.same s6 l1', nt1.bd, nt1.rd.sy, kq⟩
        | 1, _, hx =>
          cases hx
          exact ⟨rfl, _, rfl, _, t2, rfl, LTerms.same s6 l2', nt2.bd, nt2.rd.sy, kq⟩
        | 2, _, hx =>
          cases hx
          exact ⟨rfl, _, rfl, _, t3, rfl, LTerms.same s6 l3', nt3.bd, nt3.rd.sy, kq⟩
      · have dd : M1 D2 = some (.lst [V.str (Fm.textS t1), V.str (Fm.textS t2), V.str (Fm.textS t3)]) := dd
        have g1' := u1 _ _ g1'
        refine ⟨_, rfl, D2, rfl, ⟨_, SqL.of dd⟩, fun D3 hD3 => lc_forms (C := Z.form) walk_list (fun j => [t1, t2, t3].getD j []) (by show 3 ≤ 1000; decide) hD3 (fun H' s' => SqL.of (s' _ _ dd)) (fun j x H6 H7 Q' hj s6 y kq => ?_) fun M2 fs u2 d3 l3f hf => ?_⟩
        · obtain ⟨rfl, hx⟩ := y
          match j, hj, hx with
          | 0, _, hx =>
            cases hx
            exact ⟨rfl, rfl, _, rfl, t1, rfl, nt1.nm, nt1.rd, by have := nt1.len; omega, fun a H' s ha => kq a H' s ha⟩
          | 1, _, hx =>
            cases hx
            exact ⟨rfl, rfl, _, rfl, t2, rfl, nt2.nm, nt2.rd, by have := nt2.len; omega, fun a H' s ha => kq a H' s ha⟩
          | 2, _, hx =>
            cases hx
            exact ⟨rfl, rfl, _, rfl, t3, rfl, nt3.nm, nt3.rd, by have := nt3.len; omega, fun a H' s ha => kq a H' s ha⟩
        · refine ⟨_, rfl, D2, rfl, ⟨_, SqL.of (u2 _ _ dd)⟩, fun D4 hD4 => lc_forms (C := Z.form) walk_list (fun j => [t1, t2, t3].getD j []) (by show 3 ≤ 1000; decide) hD4 (fun H' s' => SqL.of (s' _ _ (u2 _ _ dd))) (fun j x H6 H7 Q' hj s6 y kq => ?_) fun M3 gs u3 d4 l4f hg => ?_⟩
          · obtain ⟨rfl, hx⟩ := y
            match j, hj, hx with
            | 0, _, hx =>
              cases hx
              exact ⟨rfl, rfl, _, rfl, t1, rfl, nt1.nm, nt1.rd, by have := nt1.len; omega, fun a H' s ha => kq a H' s ha⟩
            | 1, _, hx =>
              cases hx
              exact ⟨rfl, rfl, _, rfl, t2, rfl, nt2.nm, nt2.rd, by have := nt2.len; omega, fun a H' s ha => kq a H' s ha⟩
            | 2, _, hx =>
              cases hx
              exact ⟨rfl, rfl, _, rfl, t3, rfl, nt3.nm, nt3.rd, by have := nt3.len; omega, fun a H' s ha => kq a H' s ha⟩
          · obtain ⟨x1, x2, x3, rfl⟩ := three_of l3f
            obtain ⟨y1, y2, y3, rfl⟩ := three_of l4f
            have dk : DtOk Z M3 ⟨m1, m2, x1, x2, x3, t1, t2, t3, cd⟩ := ⟨na1, na2, (hf 0 _ rfl).same u3, (hf 1 _ rfl).same u3, (hf 2 _ rfl).same u3, nt1, nt2, nt3, cb⟩
            have dk2 : DtOk Z M3 ⟨m1, m2, y1, y2, y3, t1, t2, t3, cd⟩ := ⟨na1, na2, hg 0 _ rfl, hg 1 _ rfl, hg 2 _ rfl, nt1, nt2, nt3, cb⟩
            have tg3 := u3 _ _ (u2 _ _ g1')
            have dd3 := u3 _ _ (u2 _ _ dd)
            have d33 := u3 _ _ d3
            refine ⟨_, _, rfl, ?_⟩
            refine ⟨_, rfl, _, rfl, _, rfl, p1, D3, ⟨m1, m2, x1, x2, x3, t1, t2, t3, cd⟩, rfl, tg3, d33, dk, fun r1 M4 as u4 nr1 h4 ten => ?_⟩
            refine ⟨_, rfl, _, rfl, _, rfl, p1, D4, ⟨m1, m2, y1, y2, y3, t1, t2, t3, cd⟩, rfl, u4 _ _ tg3, u4 _ _ d4, dk2.same u4, fun r2 M5 bs u5 nr2 h5 ten2 => ?_⟩
            refine ⟨_, _, rfl, ?_⟩
            refine ⟨_, rfl, _, rfl, _, rfl, p1, D2, ⟨m1, m2, x1, x2, x3, t1, t2, t3, cd⟩, rfl, u5 _ _ (u4 _ _ tg3), u5 _ _ (u4 _ _ dd3), dk.t, fun r3 M6 u6 nr3 h6 => ?_⟩
            have oM : OffP a H M6 := (e23.trans e4 (e := 152) (by decide)).off.trans (.of (((((u1.trans u2).trans u3).trans u4).trans u5).trans u6))
            have AM : AllMade H a Z M6 ⟨m1, m2, x1, x2, x3, t1, t2, t3, cd⟩ y1 y2 y3 p1 D3 D4 r1 r2 r3 as bs := ⟨oM, ((dk.same u4).same u5).same u6, ((dk2.same u4).same u5).same u6, u6 _ _ (u5 _ _ (u4 _ _ tg3)), u6 _ _ (u5 _ _ (u4 _ _ d33)), u6 _ _ (u5 _ _ (u4 _ _ d4)), u6 _ _ (u5 _ _ h4), u6 _ _ h5, h6, (ten.same u5).same u6, ten2.same u6⟩
            generalize hd : (⟨m1, m2, x1, x2, x3, t1, t2, t3, cd⟩ : Dt) = d at AM
            have ecd : cd = d.i := by rw [← hd]
            rw [ecd]
            refine ⟨10, rfl, by decide, by decide, for_it (walk_range (lo := 0) (n := 10)) (fun i σ G' => ∃ (x4 x7 x10 x14 x15 x16 : Option V), σ = [some (.ref a), some (.ref p1), some (.ref p2), some (.ref D), x4, some (.int d.i), some (.ref D2), x7, some (.ref D3), some (.ref D4), x10, some (.ref r1), some (.ref r2), some (.ref r3), x14, x15, x16] ∧ AllMade H a Z G' d y1 y2 y3 p1 D3 D4 r1 r2 r3 as bs) ⟨_, _, _, _, _, _, rfl, AM⟩ (fun _ _ _ _ _ => True.intro) ?_ ?_⟩
            · clear e1 e2 e3 e23 e4 f1 f2 hl sl nl nt1 nt2 nt3 l1 l2 l3 l1' l2' l3' oz oy na1 na2 u1 u2 u3 u4 u5 u6 dk dk2 ten ten2 h4 h5 h6 hf hg tg3 dd3 d33 d3 d4 g1 g2 gD gD' g1' dd AM hd q1 q2 hq h1 h2
              rintro i x σ G G' hi ⟨x4, x7, x10, x14, x15, x16, rfl, am⟩ ⟨rfl, rfl⟩
              obtain ⟨ai, ha⟩ : ∃ ai, as[i]? = some ai := ⟨_, List.getElem?_eq_getElem (by rw [am.ten.1]; exact hi)⟩
              obtain ⟨bi, hb⟩ : ∃ bi, bs[i]? = some bi := ⟨_, List.getElem?_eq_getElem (by rw [am.ten2.1]; exact hi)⟩
              have atM : atI (as.map V.ref) (i : Int) = some (V.ref ai) := L2.atI_nat (by rw [List.getElem?_map, ha]; rfl)
              have atB : atI (bs.map V.ref) (i : Int) = some (V.ref bi) := L2.atI_nat (by rw [List.getElem?_map, hb]; rfl)
              have atD : atI ((dueL d).map V.str) (i : Int) = some (V.str (lineOf d i)) := L2.atI_nat (by rw [List.getElem?_map, due_at d hi]; rfl)
              show gName 14 (V.int (0 + (i : Int))) _ _ _
              rw [Int.zero_add]
              refine ⟨_, rfl, _, rfl, r1, _, _, _, rfl, rfl, SqL.of am.made, atM, _, rfl, _, rfl, r3, _, _, _, rfl, rfl, SqL.of am.due, atD, _, rfl, ai, d, i, rfl, hi, am.dk.t, am.ten.2 i ai ha, fun K1 v1 => ⟨true, rfl, iteF ?_⟩⟩
              have am := am.same v1
              refine ⟨_, rfl, _, rfl, r2, _, _, _, rfl, rfl, SqL.of am.twins, atB, _, rfl, _, rfl, r3, _, _, _, rfl, rfl, SqL.of am.due, atD, _, rfl, bi, { d with f1 := y1, f2 := y2, f3 := y3 }, i, (by show [V.ref bi, V.str (lineOf d i), V.int (i : Int)] = _; rw [line_same (d := d) (g1 := y1) (g2 := y2) (g3 := y3) hi]), hi, am.dk2.t, am.ten2.2 i bi hb, fun K2 v2 => ⟨true, rfl, iteF ?_⟩⟩
              have am := am.same v2
              refine ⟨_, rfl, _, rfl, r1, _, _, _, rfl, rfl, SqL.of am.made, atM, _, rfl, ai, d, i, rfl, hi, am.ten.2 i ai ha, fun q1 K3 v3 nq1 hq1 => ⟨_, _, _, rfl, hq1, (rep_facts am.dk hi).1, (rep_facts am.dk hi).2.1, (rep_facts am.dk hi).2.2, its_args (am.dk.same v3) hi, txts_fit am.dk.t hi, fun K4 v4 => ?_⟩⟩
              have am := (am.same v3).same v4
              refine ⟨_, rfl, _, rfl, _, rfl, _, rfl, p1, D3, d, i, rfl, hi, am.tags, am.some_, fun q2 K5 v5 nq2 hq2 => ⟨_, _, _, rfl, hq2, (rep_facts am.dk hi).1, (rep_facts am.dk hi).2.1, (rep_facts am.dk hi).2.2, its_args (am.dk.same v5) hi, txts_fit am.dk.t hi, fun K6 v6 => ⟨rfl, _, rfl, ite2 (fun h => absurd h (by simp)) fun _ => ?_⟩⟩⟩
              have am := (am.same v5).same v6
              refine ⟨_, rfl, _, rfl, r2, _, _, _, rfl, rfl, SqL.of am.twins, atB, _, rfl, bi, _, i, rfl, hi, am.ten2.2 i bi hb, fun q3 K7 v7 nq3 hq3 => ⟨_, _, _, rfl, hq3, (rep_facts am.dk2 hi).1, (rep_facts am.dk2 hi).2.1, (rep_facts am.dk2 hi).2.2, its_args (am.dk2.same v7) hi, txts_fit am.dk2.t hi, fun K8 v8 => ?_⟩⟩
              have am := (am.same v7).same v8
              refine ⟨_, rfl, _, rfl, _, rfl, _, rfl, p1, D4, { d with f1 := y1, f2 := y2, f3 := y3 }, i, rfl, hi, am.tags, am.again, fun q4 K9 v9 nq4 hq4 => ⟨_, _, _, rfl, hq4, (rep_facts am.dk2 hi).1, (rep_facts am.dk2 hi).2.1, (rep_facts am.dk2 hi).2.2, its_args (am.dk2.same v9) hi, txts_fit am.dk2.t hi, fun K10 v10 => ⟨rfl, _, rfl, ite2 (fun h => absurd h (by simp)) fun _ => ?_⟩⟩⟩
              have am := (am.same v9).same v10
              refine ⟨10, rfl, by decide, by decide, for_it (walk_range (lo := 0) (n := 10)) (fun i' σ G' => ∃ (x4 x7 x10 x15 x16 : Option V), σ = [some (.ref a), some (.ref p1), some (.ref p2), some (.ref D), x4, some (.int d.i), some (.ref D2), x7, some (.ref D3), some (.ref D4), x10, some (.ref r1), some (.ref r2), some (.ref r3), some (.int (i : Int)), x15, x16] ∧ AllMade H a Z G' d y1 y2 y3 p1 D3 D4 r1 r2 r3 as bs) ⟨_, _, _, _, _, rfl, am⟩ (fun _ _ _ _ _ => True.intro) ?_ ?_⟩
              · rintro j x σ L L' hj ⟨x4, x7, x10, x15, x16, rfl, am⟩ ⟨rfl, rfl⟩
                obtain ⟨bj, hbj⟩ : ∃ bj, bs[j]? = some bj := ⟨_, List.getElem?_eq_getElem (by rw [am.ten2.1]; exact hj)⟩
                have atBj : atI (bs.map V.ref) (j : Int) = some (V.ref bj) := L2.atI_nat (by rw [List.getElem?_map, hbj]; rfl)
                have atDj : atI ((dueL d).map V.str) (j : Int) = some (V.str (lineOf d j)) := L2.atI_nat (by rw [List.getElem?_map, due_at d hj]; rfl)
                have sa := (am.ten.2 i ai ha).s am.dk.t hi
                have sb : SAt Z L' bj (kindOf j) (lineOf d j) := by
                  have := (am.ten2.2 j bj hbj).s am.dk2.t hj
                  rwa [line_same (d := d) (g1 := y1) (g2 := y2) (g3 := y3) hj] at this
                show gName 15 (V.int (0 + (j : Int))) _ _ _
                rw [Int.zero_add]
                refine ⟨_, rfl, _, rfl, r1, _, _, _, rfl, rfl, SqL.of am.made, atM, _, rfl, _, rfl, r2, _, _, _, rfl, rfl, SqL.of am.twins, atBj, ai, rfl, sa.insK, oth_st sa sb ?_⟩
                refine ⟨_, rfl, _, rfl, r1, _, _, _, rfl, rfl, SqL.of am.made, atM, _, rfl, _, rfl, r2, _, _, _, rfl, rfl, SqL.of am.twins, atBj, ai, rfl, sa.insK, oth_st sa sb ⟨_, rfl, ?_⟩⟩
                refine ⟨(by show 2 ≤ sizeLine; decide), fun q5 N1 nq5 z1 hq5 => ?_⟩
                have am := am.same z1
                refine ⟨_, rfl, q5, .list [.bool (decide (lineOf d i = lineOf d j)), .bool (!decide (lineOf d i = lineOf d j))], rfl, .lst (SqL.of hq5) (.cons (.bl _) (.cons (.bl _) .nil)), rfl, rfl, by show 1 ≤ 50; decide, two_bl _, ?_⟩
                refine ⟨_, rfl, _, rfl, r3, _, _, _, rfl, rfl, SqL.of am.due, atD, _, rfl, _, rfl, r3, _, _, _, rfl, rfl, SqL.of am.due, atDj, rfl, ?_⟩
                refine ⟨_, rfl, _, rfl, r3, _, _, _, rfl, rfl, SqL.of am.due, atD, _, rfl, _, rfl, r3, _, _, _, rfl, rfl, SqL.of am.due, atDj, rfl, ?_⟩
                rw [dec_str]
                refine ⟨(by show 2 ≤ sizeLine; decide), fun q6 N2 nq6 z2 hq6 => ?_⟩
                refine ⟨q6, .list [.bool (decide (lineOf d i = lineOf d j)), .bool (!decide (lineOf d i = lineOf d j))], rfl, .lst (SqL.of hq6) (.cons (.bl _) (.cons (.bl _) .nil)), rfl, rfl, by show 1 ≤ 50; decide, two_bl _, ?_⟩
                refine ⟨rfl, _, rfl, ite2 (fun h => absurd h (by simp)) fun _ => ?_⟩
                exact ⟨_, _, _, _, _, rfl, am.same z2⟩
              · rintro σ L ⟨x4, x7, x10, x15, x16, rfl, am⟩
                refine ⟨_, rfl, _, rfl, r1, _, _, _, rfl, rfl, SqL.of am.made, atM, _, rfl, _, rfl, r3, _, _, _, rfl, rfl, SqL.of am.due, atD, ai, _, _, rfl, (am.ten.2 i ai ha).s am.dk.t hi, fun L2 v => ⟨true, rfl, iteF ?_⟩⟩
                exact ⟨_, _, _, _, _, _, rfl, am.same v⟩
            · rintro σ G' ⟨x4, x7, x10, x14, x15, x16, rfl, am⟩
              exact k G' am.off
end
def spLaw (K : PySem.W.Frag) : Sp := fun vs H Q _ => ∃ (a : Addr) (ns : List Int), vs = [.ref a] ∧ SqL K H a (ns.map V.int) ∧ ns.length ≤ 63 ∧ ∀ H', Q (.bl true) H'
section
variable {P : Program} {w : World} {K : PySem.W.Frag} {mg : Str → Option Value} {base : Heap}
theorem ok_law {f : Addr} {fd : FuncData} (F : Fun K "law" "law" s_law f fd) (T : Ta mg) (c__law_cell : Cal P w K mg base 1 "_law_cell" ["_law_script", "_law_k"] (spCellI K)) (c__law_purse : Cal P w K mg base 1 "_law_purse" ["_law_number"] spPurse)
    (c__law_right : Cal P w K mg base 14 "_law_right" ["_law_purse_here"] spRight) : FnG P w K mg base 15 f fd ["_law_script"] (spLaw K) := by
  refine okG F sc_law (fun vs H Q E h => ?_) (fun cdv A outer s H vs Q hr h => ?_)
  · obtain ⟨a, ns, rfl, _⟩ := h
    rfl
  · obtain ⟨a, ns, rfl, hS, hl, k⟩ := h
    refine ⟨_, (pss_one (ps_ret (pe_callB (cr_all (by rfl)) (by rfl) T.b_all (by decide +kernel) (pa_cons (pe_lc (own := [("_law_k", 1)]) (g := gName 1) (tt := tYes) rfl sc_law.nd (pi_range1 rfl T.b_range (pa_cons (pe_callB (call_max2 rfl) (by rfl) T.b_max (by decide +kernel) (pa_cons pe_int (pa_cons (pe_callB (call_min2 rfl) (by rfl) T.b_min (by decide +kernel) (pa_cons (pe_callB call_len_seq (by rfl) T.b_len (by decide +kernel) (pa_cons (pv 0) pa_nil)) (pa_cons pe_int pa_nil))) pa_nil))) pa_nil)) (blkOk_by (own := [("_law_k", 1)]) (N := n_law) (sc := defScope s_law) (by decide +kernel)) (fun _ _ _ _ _ => pg_name (i := 1) sc_law.nd rfl (Or.inl rfl)) (fun _ _ _ _ _ => pts_nil) (fun _ _ _ _ _ => (pe_c c__law_right hr (by decide) rfl (pa_cons (pe_c c__law_purse hr (by decide) rfl (pa_cons (pe_c c__law_cell hr (by decide) rfl (pa_cons (pv 0) (pa_cons (pv 1) pa_nil))) pa_nil)) pa_nil)))) pa_nil)))), ?_⟩
    refine ⟨_, rfl, a, _, rfl, .inl hS, _, _, rfl, _, _, rfl, ?_⟩
    rw [List.length_map]
    generalize hN : (if (if (6 : Int) < (ns.length : Int) then (6 : Int) else (ns.length : Int)) > 2 then (if (6 : Int) < (ns.length : Int) then (6 : Int) else (ns.length : Int)) else (2 : Int)) = N
    have hN0 : 2 ≤ N ∧ N ≤ 6 := by
      rw [← hN]
      split <;> split <;> omega
    refine ⟨N, rfl, by omega, by omega, fun D hD => lc_fn (walk_range (lo := 0) (n := N.toNat)) (fun _ => .bl true) (by omega) hD (fun _ _ => True.intro) (fun j x H7 H8 Q' hj s7 y kq => ?_) fun H7 s7 d => ?_⟩
    · obtain ⟨rfl, rfl⟩ := y
      refine ⟨rfl, _, rfl, _, rfl, a, ns, _, rfl, s7.seq hS, hl, by omega, by omega, fun z H5 s5 => ?_⟩
      refine ⟨z, rfl, fun hp H6 s6 nhp pu => ?_⟩
      refine ⟨hp, rfl, pu, fun H9 o9 => kq H9 fun b o e => ?_⟩
      have e5 := s5 _ _ e
      exact o9 b o (ne_of_none e5 nhp) (s6 _ _ e5)
    · refine ⟨D, List.replicate N.toNat true, rfl, SqL.of ?_, ?_⟩
      · rw [d]
        congr 2
        apply List.ext_getElem?
        intro i
        rw [List.getElem?_map, List.getElem?_map, List.getElem?_replicate]
        by_cases hi : i < N.toNat
        · rw [List.getElem?_range hi, if_pos hi]
          rfl
        · rw [List.getElem?_eq_none (by rw [List.length_range]; omega), if_neg hi]
          rfl
      · have e : (List.replicate N.toNat true).all id = true := List.all_eq_true.mpr fun b hb => by
          rw [(List.mem_replicate.mp hb).2]
          rfl
        rw [e]
        exact k H7
end
end Lw

/-! ## LwH -/
set_option maxHeartbeats 4000000
/-! what the head tells, by one look at the written part -/
namespace Lw
open PySem PySem.Spec PyProof.Rows L2
open PySem.LwX (refsT TailOk tailOf)
/-! ### an exception class, looked at -/
def clsB (K : PySem.W.Frag) (C : Addr) (B newId : String) : Bool := match K.lookup C with
  | some ⟨.type "type", _, .cls cd, sl⟩ => (match cd.mro, sl.toList with
    | .ref C' :: bm, [_, _, _, _, some (.builtin n), _] => C' == C && (n == newId && (!cd.hasDel && (cd.hasDict && refsT (tailOf B) bm)))
    | _, _ => false)
  | _ => false
def ecB (K : PySem.W.Frag) (C : Addr) (B newId : String) : Bool := clsB K C B newId && (He.eqO (PySem.W.findIn K (.ref C) "__setattr__") (some (some (.builtin "object.__setattr__"))) && (He.eqO (PySem.W.findIn K (.ref C) "__getattribute__") (some (some (.builtin "BaseException.__getattribute__"))) &&
  (He.eqO (PySem.W.findIn K (.ref C) "__getattr__") (some none) && (He.eqO (PySem.W.findIn K (.ref C) "__class__") (some (some (.builtin "object.__class__"))) && PySem.W.keepIn K (.ref C)))))
theorem ecB_ok {K : PySem.W.Frag} {C : Addr} {B newId initId : String} (F : ExcBaseFacts B newId initId (tailOf B)) (T : TailOk (tailOf B)) (h : ecB K C B newId = true) : EC K B C := by
  obtain ⟨h1, h⟩ := He.ba h
  obtain ⟨h2, h⟩ := He.ba h
  obtain ⟨h3, h⟩ := He.ba h
  obtain ⟨h4, h⟩ := He.ba h
  obtain ⟨h5, h6⟩ := He.ba h
  refine ⟨T, ?_, He.eqO_ok h2, He.eqO_ok h3, He.eqO_ok h4, He.eqO_ok h5, h6⟩
  unfold clsB at h1
  split at h1
  · rename_i dd cd sl ho
    split at h1
    · rename_i C' bm k0 k1 k2 k3 n k5 hm hs
      obtain ⟨a1, h1⟩ := He.ba h1
      obtain ⟨a2, h1⟩ := He.ba h1
      obtain ⟨a3, h1⟩ := He.ba h1
      obtain ⟨a4, a5⟩ := He.ba h1
      obtain rfl := beq_iff_eq.mp a1
      obtain rfl := beq_iff_eq.mp a2
      obtain ⟨nm, bs, mro, ns, qn, hd, sn, sub, ab, col, del⟩ := cd
      dsimp only at hm a3 a4
      subst hm a4
      obtain rfl : del = false := by simpa using a3
      have hsl : sl = #[k0, k1, k2, k3, some (.builtin n), k5] := by
        obtain ⟨l⟩ := sl
        simp only at hs
        rw [hs]
      subst hsl
      exact ⟨n, initId, nm, qn, ns, bs, bm, sn, sub, ab, col, dd, k0, k1, k2, k3, k5, F, ho, a5⟩
    · cases h1
  · cases h1
def subB (K : PySem.W.Frag) (C D : Addr) (b : Bool) : Bool := decide (PySem.W.subIn K (.ref C) (.ref D) = some b)
def tyB (K : PySem.W.Frag) (a : Addr) (n : String) : Bool := decide (PySem.W.typeIn K (.ref a) = some (.type n))
/-- the class x and its own __init__ -/
def exB (x : Str) (B newId : String) (ps : List Str) (K : PySem.W.Frag) : Bool := (He.Fa.glo x).ok K && (ecB K (He.ga K x) B newId && (He.eqO (PySem.W.findIn K (.ref (He.ga K x)) "__init__") (some (some (.ref (He.ma K (He.ga K x) "__init__")))) &&
  (tyB K (He.ma K (He.ga K x) "__init__") "function" && ps.all fun f => He.eqO (PySem.W.findIn K (.ref (He.ga K x)) f) (some none))))
theorem Fun.ofD {K : PySem.W.Frag} {x qual : Str} {st : Stmt} {f : Addr} {fd : FuncData} (F : FunD K x qual (defArgs st) (defBody st) (defScope st) [] [] f fd) : Fun K x qual st f fd := by
  obtain ⟨oc, od, dV, kV, doc, pm, an, cdv, ct, osl, e, lk, hcd, hD, _⟩ := F.ex
  rcases hD with ⟨_, rfl⟩ | ⟨z, _⟩
  · exact ⟨⟨oc, od, kV, doc, pm, an, cdv, ct, osl, e, lk, hcd⟩, F.kp⟩
  · exact absurd rfl z
theorem Fun.bound {K : PySem.W.Frag} {x qual : Str} {st : Stmt} {f : Addr} {fd : FuncData} (F : Fun K x qual st f fd) {p : FuncData → Prop}
    (h : ∀ (kV doc pm : Value) (an : Option Addr) (cdv ct : Value), p (PySem.W.fnOf x qual (defArgs st) (defBody st) (defScope st) .none kV doc pm an cdv ct)) : p fd := by
  obtain ⟨oc, od, kV, doc, pm, an, cdv, ct, osl, rfl, lk, hcd⟩ := F.ex
  exact h kV doc pm an cdv ct
/-! ### the look -/
abbrev AlW : Type := Bool × List He.FnW
def obsW (fs : List (PySem.W.Frag → Bool)) (fn : List He.DefD) (K : PySem.W.Frag) : AlW := ((fs.all fun f => f K) && fn.all fun d => d.ok K, fn.map fun d => He.fnW K d.at_)
def SaysW (fs : List (PySem.W.Frag → Bool)) (fn : List He.DefD) (K : PySem.W.Frag) : Prop := obsW fs fn K = (true, fn.map He.DefD.val)
def obsWG (as : List Addr) (fs : List (PySem.W.Frag → Bool)) (fn : List He.DefD) (g : Addr → Option Obj) : AlW := obsW fs fn (He.frG g as)
def hookW (as : List Addr) (fs : List (PySem.W.Frag → Bool)) (fn : List He.DefD) : PySem.W.Hook where
  α := AlW
  obs := fun s => obsWG as fs fn s.heap.get?
  val := fun _ => (true, fn.map He.DefD.val)
  says := fun _ h => ∃ K : PySem.W.Frag, K.In h ∧ SaysW fs fn K
  of := fun _ _ e => ⟨_, He.frG_in, e⟩
  keeps := fun _ _ _ ⟨K, hK, c⟩ k => ⟨K, PySem.W.Frag.In.keeps hK k, c⟩
theorem obsWG_eq {as : List Addr} {fs : List (PySem.W.Frag → Bool)} {fn : List He.DefD} {g : Addr → Option Obj} {s : Shared} (h : ∀ a, g a = s.heap.get? a) : obsWG as fs fn g = (hookW as fs fn).obs s := by
  have e : g = s.heap.get? := funext h
  rw [e] <;> rfl
section
variable {fs : List (PySem.W.Frag → Bool)} {fn : List He.DefD} {K : PySem.W.Frag}
theorem SaysW.fact (c : SaysW fs fn K) {f : PySem.W.Frag → Bool} (i : Nat) (h : fs[i]? = some f := by rfl) : f K = true :=
  List.all_eq_true.mp (He.ba (congrArg (fun z : AlW => z.1) c)).1 f (List.mem_of_getElem? h)
theorem SaysW.def_ (c : SaysW fs fn K) {d : He.DefD} (i : Nat) (h : fn[i]? = some d := by rfl) : ∃ fd, FunD K d.name d.qual d.params d.body d.scope (d.dvs K) (d.kws K) (He.fAd K d.at_) fd := by
  have e : fn.map (fun d => He.fnW K d.at_) = fn.map He.DefD.val := congrArg (fun z : AlW => z.2) c
  have e2 : (fn.map fun d => He.fnW K d.at_)[i]? = (fn.map He.DefD.val)[i]? := by rw [e]
  rw [List.getElem?_map, List.getElem?_map, h] at e2
  exact He.DefD.funD (Option.some.inj e2) (List.all_eq_true.mp (He.ba (congrArg (fun z : AlW => z.1) c)).2 d (List.mem_of_getElem? h))
end
theorem map_two {α β γ : Type} {x : Option α} {f : α → β} {g : α → γ} {b : β} {c : γ} (h1 : x.map f = some b) (h2 : x.map g = some c) : x.map (fun s => (f s, g s)) = some (b, c) := by
  cases x with
  | none => cases h1
  | some s =>
    injection h1 with h1
    injection h2 with h2
    exact congrArg some (Prod.ext h1 h2)
theorem obs_two {as : List Addr} {x : Option PySem.W.SharedT} {f1 f2 : List (PySem.W.Frag → Bool)} {d1 d2 : List He.DefD} (h1 : x.map (fun s => obsWG as f1 d1 (HandSHeadRun.getT s)) = some (true, d1.map He.DefD.val)) (h2 : x.map (fun s => obsWG as f2 d2 (HandSHeadRun.getT s)) = some (true, d2.map He.DefD.val)) :
    x.map (fun s => obsWG as (f1 ++ f2) (d1 ++ d2) (HandSHeadRun.getT s)) = some (true, (d1 ++ d2).map He.DefD.val) := by
  cases x with
  | none => cases h1
  | some s =>
    have e1 : obsW f1 d1 (He.frG (HandSHeadRun.getT s) as) = (true, d1.map He.DefD.val) := Option.some.inj h1
    have e2 : obsW f2 d2 (He.frG (HandSHeadRun.getT s) as) = (true, d2.map He.DefD.val) := Option.some.inj h2
    show some (obsW (f1 ++ f2) (d1 ++ d2) (He.frG (HandSHeadRun.getT s) as)) = _
    generalize He.frG (HandSHeadRun.getT s) as = K at *
    have a1 := congrArg (fun z : AlW => z.1) e1
    have a2 := congrArg (fun z : AlW => z.1) e2
    have b1 := congrArg (fun z : AlW => z.2) e1
    have b2 := congrArg (fun z : AlW => z.2) e2
    obtain ⟨p1, q1⟩ := He.ba a1
    obtain ⟨p2, q2⟩ := He.ba a2
    unfold obsW
    rw [List.all_append, List.all_append, List.map_append, List.map_append, p1, q1, p2, q2]
    exact congrArg some (Prod.ext rfl (by rw [show d1.map (fun d => He.fnW K d.at_) = d1.map He.DefD.val from b1, show d2.map (fun d => He.fnW K d.at_) = d2.map He.DefD.val from b2]))
theorem map_three {α β γ δ : Type} {x : Option α} {f : α → β} {g : α → γ} {k : α → δ} {a : β} {b : γ} {c : δ} (h1 : x.map (fun s => (f s, g s)) = some (a, b)) (h2 : x.map k = some c) : x.map (fun s => (f s, g s, k s)) = some (a, b, c) := by
  cases x with
  | none => cases h1
  | some s =>
    have h1 : (f s, g s) = (a, b) := Option.some.inj h1
    have h2 : k s = c := Option.some.inj h2
    have e1 : f s = a := congrArg Prod.fst h1
    have e2 : g s = b := congrArg Prod.snd h1
    show some (f s, g s, k s) = _
    rw [e1, e2, h2]
/-- the end, over such a look -/
theorem walk_look {l : PySem.W.OpenLaw} {n k : Nat} {q : Program} {loose : List Str} {XP : (Str → Option Value) → Heap → Prop} {YP : World → Heap → Prop} {d : DefRec} {sp : PySem.W.Frag → Sp} {x : Str}
    (hn : l.most = some n) (hn2 : n ≤ sizeLine) (hdf : d.params.defaults = []) (hr : RoomG k callerA)
    (F : ∀ (w : World) (mg : Str → Option Value) (fa : Addr) (h : Heap), YP w h → h.Ns mainGlobals mg → mg d.name = some (.ref fa) →
      ∃ (K : PySem.W.Frag) (fd : FuncData), K.In h ∧ (∀ u : Value, bindArgs fd ⟨[u], []⟩ = pure [(x, u)]) ∧ ∀ base : Heap, K.In base → base.Ns mainGlobals mg → FnG l.prog w K mg base k fa fd [x] (sp K))
    (hsp : ∀ (K : PySem.W.Frag) (H : Hp) (a : Addr) (ns : List Int), ns.length ≤ n → Only H → SqL K H a (ns.map V.int) → sp K [.ref a] H (fun v _ => v = .bl true) E0) :
    PySem.W.WalkO q loose XP YP l.row.toRowW d [] (fun f vs => PySem.call f vs) := by
  refine Att.attach_call hn hdf fun w s₀ s₁ mg mb fa o pm cd doc a vs ns G Y ho hd hcd hmg hobj hints hlen hg => ?_
  obtain ⟨K, fd, KX, hb, hF⟩ := F w mg fa _ Y G.T.g hmg
  exact law_end KX G.T.g G.T.b G.T.builtins G.T.nolimit hg hobj hints (Nat.le_trans hlen hn2) hr hF hb (fun H hO hS => hsp K H a ns hlen hO hS)
end Lw

/-! ## LwI -/
set_option maxHeartbeats 4000000
/-! the look, where a def may stand at an address of one's own finding; a class whose instances are reckoned with -/
namespace Lw
open PySem PySem.Spec PyProof.Rows L2
structure DfA where
  ad : PySem.W.Frag → Addr
  d : He.DefD
def seeA (K : PySem.W.Frag) (a : Addr) : He.FnW :=
  match K.lookup a with
  | some ⟨_, _, .func z, _⟩ => some (z.name, z.qualname, z.params, z.body, z.scope, z.globals, z.closure, z.builtins)
  | _ => none
def okA (K : PySem.W.Frag) (a : Addr) (d : He.DefD) : Bool := PySem.W.keepIn K (.ref a) &&
  match K.lookup a with
  | some ⟨_, _, .func z, _⟩ => PySem.W.codeIn K z.code d.qual && (He.dflB K z.defaults (d.dvs K) && He.kwdB K z.kwdefaults (d.kws K))
  | _ => false
theorem seeA_fun {K : PySem.W.Frag} {a : Addr} {d : He.DefD} (e : seeA K a = d.val) (c : okA K a d = true) : ∃ fd, FunD K d.name d.qual d.params d.body d.scope (d.dvs K) (d.kws K) a fd := by
  obtain ⟨kp, c⟩ := He.ba c
  unfold seeA at e
  cases q : K.lookup a with
  | none => rw [q] at c; cases c
  | some o =>
    obtain ⟨oc, od, dt, osl⟩ := o
    rw [q] at c e
    cases dt with
    | func z =>
      obtain ⟨m1, m2, m3, m4, m5, m6, m7, m8, m9, m10, m11, m12, m13, m14, m15⟩ := z
      have e2 : (some (m1, m2, m3, m4, m5, m6, m7, m15) : He.FnW) = some (d.name, d.qual, d.params, .stmts d.body, d.scope, mainGlobals, [], builtinsNs) := e
      simp only [Option.some.injEq, Prod.mk.injEq] at e2
      obtain ⟨h1, h2, h3, h4, h5, h6, h7, h8⟩ := e2
      subst h1 h2 h3 h4 h5 h6 h7 h8
      have c3 : (PySem.W.codeIn K m13 d.qual && (He.dflB K m8 (d.dvs K) && He.kwdB K m9 (d.kws K))) = true := c
      obtain ⟨k1, k2⟩ := He.ba c3
      obtain ⟨k3, k4⟩ := He.ba k2
      exact ⟨_, ⟨oc, od, m8, m9, m10, m11, m12, m13, m14, osl, rfl, q, k1, He.dflB_ok k3, He.kwdB_ok k4⟩, kp⟩
    | _ => cases c
def obsA (fs : List (PySem.W.Frag → Bool)) (fn : List DfA) (K : PySem.W.Frag) : AlW := ((fs.all fun f => f K) && fn.all fun x => okA K (x.ad K) x.d, fn.map fun x => seeA K (x.ad K))
def valA (fn : List DfA) : AlW := (true, fn.map fun x => x.d.val)
def SaysA (fs : List (PySem.W.Frag → Bool)) (fn : List DfA) (K : PySem.W.Frag) : Prop := obsA fs fn K = valA fn
def obsAG (as : List Addr) (fs : List (PySem.W.Frag → Bool)) (fn : List DfA) (g : Addr → Option Obj) : AlW := obsA fs fn (He.frG g as)
def hookA (as : List Addr) (fs : List (PySem.W.Frag → Bool)) (fn : List DfA) : PySem.W.Hook where
  α := AlW
  obs := fun s => obsAG as fs fn s.heap.get?
  val := fun _ => valA fn
  says := fun _ h => ∃ K : PySem.W.Frag, K.In h ∧ SaysA fs fn K
  of := fun _ _ e => ⟨_, He.frG_in, e⟩
  keeps := fun _ _ _ ⟨K, hK, c⟩ k => ⟨K, PySem.W.Frag.In.keeps hK k, c⟩
theorem obsAG_eq {as : List Addr} {fs : List (PySem.W.Frag → Bool)} {fn : List DfA} {g : Addr → Option Obj} {s : Shared} (h : ∀ a, g a = s.heap.get? a) : obsAG as fs fn g = (hookA as fs fn).obs s := by
  have e : g = s.heap.get? := funext h
  rw [e] <;> rfl
section
variable {fs : List (PySem.W.Frag → Bool)} {fn : List DfA} {K : PySem.W.Frag}
theorem SaysA.fact (c : SaysA fs fn K) {f : PySem.W.Frag → Bool} (i : Nat) (h : fs[i]? = some f := by rfl) : f K = true :=
  List.all_eq_true.mp (He.ba (congrArg (fun z : AlW => z.1) c)).1 f (List.mem_of_getElem? h)
theorem SaysA.def_ (c : SaysA fs fn K) {x : DfA} (i : Nat) (h : fn[i]? = some x := by rfl) : ∃ fd, FunD K x.d.name x.d.qual x.d.params x.d.body x.d.scope (x.d.dvs K) (x.d.kws K) (x.ad K) fd := by
  have e : fn.map (fun x => seeA K (x.ad K)) = fn.map (fun x => x.d.val) := congrArg (fun z : AlW => z.2) c
  have e2 : (fn.map fun x => seeA K (x.ad K))[i]? = (fn.map fun x => x.d.val)[i]? := by rw [e]
  rw [List.getElem?_map, List.getElem?_map, h] at e2
  exact seeA_fun (Option.some.inj e2) (List.all_eq_true.mp (He.ba (congrArg (fun z : AlW => z.1) c)).2 x (List.mem_of_getElem? h))
end
/-! ### a class, looked at -/
/-- isinstance of its instances -/
def insB (x : Str) (K : PySem.W.Frag) : Bool := (He.Fa.cls x).ok K && (He.eqO (PySem.W.findIn K (.ref (He.ga K x)) "__class__") (some (some (.builtin "object.__class__"))) &&
  (He.eqO (PySem.W.specialIn K (.builtin "object.__class__") "__get__") (some (some (.builtin "getset_descriptor.__get__"))) && (decide (PySem.W.takesIn K (.builtin "object.__class__") = some true) &&
  (decide (PySem.W.mroIn K (He.ga K x) (.type "object") = some true) && decide (PySem.W.kitOne K (.ref (He.ga K x)) (.ref (He.ga K x)) = some true)))))
theorem insB_ok {x : Str} {K : PySem.W.Frag} (h : insB x K = true) : C8.InsC K (He.ga K x) := by
  obtain ⟨h1, h⟩ := He.ba h
  obtain ⟨h2, h⟩ := He.ba h
  obtain ⟨h3, h⟩ := He.ba h
  obtain ⟨h4, h⟩ := He.ba h
  obtain ⟨h5, h6⟩ := He.ba h
  exact ⟨He.cls_ok h1, He.eqO_ok h2, He.eqO_ok h3, of_decide_eq_true h4, of_decide_eq_true h5, of_decide_eq_true h6⟩
/-- the def of a static method -/
def stAd (x m : Str) (K : PySem.W.Frag) : Addr := match PySem.W.recIn K (He.ma K (He.ga K x) m) "staticmethod" with
  | some (.ref f :: _) => f
  | _ => 0
def stB (x m : Str) (K : PySem.W.Frag) : Bool := He.eqO (PySem.W.specialIn K (.ref (He.ga K x)) "__getattribute__") (some (some (.builtin "type.__getattribute__"))) && (PySem.W.readsIn K (He.ga K x) (.type "type") &&
  ((match PySem.W.findCls K (.ref (He.ga K x)) (.type "type") m with
    | some (.get (.builtin n) (.ref p) .none (.ref C)) => n == "staticmethod.__get__" && (p == He.ma K (He.ga K x) m && C == He.ga K x)
    | _ => false) && match PySem.W.recIn K (He.ma K (He.ga K x) m) "staticmethod" with
    | some (.ref _ :: _) => true
    | _ => false))
theorem stB_ok {x m : Str} {K : PySem.W.Frag} (h : stB x m K = true) : PySem.W.specialIn K (.ref (He.ga K x)) "__getattribute__" = some (some (.builtin "type.__getattribute__")) ∧ PySem.W.readsIn K (He.ga K x) (.type "type") = true ∧
    PySem.W.findCls K (.ref (He.ga K x)) (.type "type") m = some (.get (.builtin "staticmethod.__get__") (.ref (He.ma K (He.ga K x) m)) .none (.ref (He.ga K x))) ∧ ∃ rest, PySem.W.recIn K (He.ma K (He.ga K x) m) "staticmethod" = some (.ref (stAd x m K) :: rest) := by
  obtain ⟨h1, h⟩ := He.ba h
  obtain ⟨h2, h⟩ := He.ba h
  obtain ⟨h3, h4⟩ := He.ba h
  refine ⟨He.eqO_ok h1, h2, ?_, ?_⟩
  · split at h3
    · rename_i n p C e
      obtain ⟨a1, h3⟩ := He.ba h3
      obtain ⟨a2, a3⟩ := He.ba h3
      obtain rfl := beq_iff_eq.mp a1
      obtain rfl := beq_iff_eq.mp a2
      obtain rfl := beq_iff_eq.mp a3
      exact e
    · cases h3
  · unfold stAd
    split at h4
    · rename_i f rest e
      rw [e]
      exact ⟨_, rfl⟩
    · cases h4
end Lw

/-! ## Sx7 -/
set_option maxHeartbeats 4000000
/-! the look, where defs stand beside that say super() -/
namespace Lw
open PySem PySem.Spec PyProof.Rows L2
/-- a def that says super(), of the class by this name -/
structure DfC where
  cls : Str
  d : He.DefD
def clAd (K : PySem.W.Frag) (x : Str) : Addr := He.ma K (He.ga K x) "__init__"
def cellAd (K : PySem.W.Frag) (a : Addr) : Addr := match K.lookup a with
  | some ⟨_, _, .func z, _⟩ => (match z.closure with
    | [(_, cc)] => cc
    | _ => 0)
  | _ => 0
def codeAd (K : PySem.W.Frag) (a : Addr) : Addr := match K.lookup a with
  | some ⟨_, _, .func z, _⟩ => (match z.code with
    | .ref c => c
    | _ => 0)
  | _ => 0
def seeC (K : PySem.W.Frag) (a : Addr) : He.FnW :=
  match K.lookup a with
  | some ⟨_, _, .func z, _⟩ => some (z.name, z.qualname, z.params, z.body, z.scope, z.globals, [], z.builtins)
  | _ => none
def fileB (K : PySem.W.Frag) (file : Str) (a : Addr) : Bool := match K.lookup a with
  | some ⟨_, _, .fields vs, _⟩ => (match (vs[2]? : Option Value) with
    | some (Value.str x _) => x == file
    | _ => false)
  | _ => false
def cellB (K : PySem.W.Frag) (a D : Addr) : Bool := match K.lookup a with
  | some ⟨_, _, .cell (some (.ref E)), _⟩ => E == D
  | _ => false
def okC (K : PySem.W.Frag) (file : Str) (a : Addr) (x : DfC) : Bool := PySem.W.keepIn K (.ref a) &&
  match K.lookup a with
  | some ⟨_, _, .func z, _⟩ => (match z.closure, z.code, z.defaults with
    | [(n, cc)], .ref cda, .none => (n == ("__class__" : Str)) && (PySem.W.codeIn K (.ref cda) x.d.qual && (fileB K file cda && (cellB K cc (He.ga K x.cls) && ((PySem.W.clsIn K (He.ga K x.cls)).isSome && He.eqO (PySem.W.nsIn K cStatics "thirdparty.any") (some none)))))
    | _, _, _ => false)
  | _ => false
theorem seeC_fun {P : Program} {K : PySem.W.Frag} {file : Str} {a : Addr} {x : DfC} (e : seeC K a = x.d.val) (c : okC K file a x = true) (hf : (P.main.file : Str) == file) (ht : (P.main.scope.names.lookup ("super" : Str)).isSome = false)
    (hp : ∃ ar, (x.d.params.posonlyargs ++ x.d.params.args).head? = some ar ∧ ar.arg = ("self" : Str)) :
    ∃ fd, FunC P K x.d.name x.d.qual x.d.params x.d.body x.d.scope a (codeAd K a) (cellAd K a) (He.ga K x.cls) fd := by
  obtain ⟨kp, c⟩ := He.ba c
  unfold seeC at e
  unfold codeAd cellAd
  cases q : K.lookup a with
  | none => rw [q] at c; cases c
  | some o =>
    obtain ⟨oc, od, dt, osl⟩ := o
    rw [q] at c e
    cases dt with
    | func z =>
      obtain ⟨m1, m2, m3, m4, m5, m6, m7, m8, m9, m10, m11, m12, m13, m14, m15⟩ := z
      have e2 : (some (m1, m2, m3, m4, m5, m6, [], m15) : He.FnW) = some (x.d.name, x.d.qual, x.d.params, .stmts x.d.body, x.d.scope, mainGlobals, [], builtinsNs) := e
      simp only [Option.some.injEq, Prod.mk.injEq] at e2
      obtain ⟨h1, h2, h3, h4, h5, h6, _, h8⟩ := e2
      subst h1 h2 h3 h4 h5 h6 h8
      cases m7 with
      | nil => cases c
      | cons p r =>
        cases r with
        | cons _ _ => cases c
        | nil =>
          obtain ⟨n, cc⟩ := p
          cases m13 with
          | ref cda =>
            cases m8 with
            | none =>
              have c3 : ((n == ("__class__" : Str)) && (PySem.W.codeIn K (.ref cda) x.d.qual && (fileB K file cda && (cellB K cc (He.ga K x.cls) && ((PySem.W.clsIn K (He.ga K x.cls)).isSome && He.eqO (PySem.W.nsIn K cStatics "thirdparty.any") (some none)))))) = true := c
              obtain ⟨k1, k⟩ := He.ba c3
              obtain ⟨k2, k⟩ := He.ba k
              obtain ⟨k3, k⟩ := He.ba k
              obtain ⟨k4, k⟩ := He.ba k
              obtain ⟨k5, k6⟩ := He.ba k
              obtain rfl := beq_iff_eq.mp k1
              refine ⟨_, ⟨⟨oc, od, m9, m10, m11, m12, m14, osl, rfl, q, k2⟩, kp, ⟨⟨oc, od, osl, q⟩, hp, ?_, ?_, Option.isSome_iff_exists.mp k5, ht, He.eqO_ok k6⟩⟩⟩
              · unfold fileB at k3
                split at k3
                · rename_i e3
                  split at k3
                  · rename_i e4
                    obtain rfl := beq_iff_eq.mp k3
                    exact ⟨_, _, _, _, _, _, e3, e4, hf⟩
                  · cases k3
                · cases k3
              · unfold cellB at k4
                split at k4
                · rename_i e3
                  obtain rfl := beq_iff_eq.mp k4
                  exact ⟨_, _, _, e3⟩
                · cases k4
            | _ => cases c
          | _ => cases c
    | _ => cases c
def obsC (file : Str) (fs : List (PySem.W.Frag → Bool)) (fn : List DfA) (fc : List DfC) (K : PySem.W.Frag) : AlW := ((fs.all fun f => f K) && (fn.all (fun x => okA K (x.ad K) x.d) && fc.all fun x => okC K file (clAd K x.cls) x), (fn.map fun x => seeA K (x.ad K)) ++ fc.map fun x => seeC K (clAd K x.cls))
def valC (fn : List DfA) (fc : List DfC) : AlW := (true, (fn.map fun x => x.d.val) ++ fc.map fun x => x.d.val)
def SaysC (file : Str) (fs : List (PySem.W.Frag → Bool)) (fn : List DfA) (fc : List DfC) (K : PySem.W.Frag) : Prop := obsC file fs fn fc K = valC fn fc
def obsCG (file : Str) (as : List Addr) (fs : List (PySem.W.Frag → Bool)) (fn : List DfA) (fc : List DfC) (g : Addr → Option Obj) : AlW := obsC file fs fn fc (He.frG g as)
def hookC (file : Str) (as : List Addr) (fs : List (PySem.W.Frag → Bool)) (fn : List DfA) (fc : List DfC) : PySem.W.Hook where
  α := AlW
  obs := fun s => obsCG file as fs fn fc s.heap.get?
  val := fun _ => valC fn fc
  says := fun _ h => ∃ K : PySem.W.Frag, K.In h ∧ SaysC file fs fn fc K
  of := fun _ _ e => ⟨_, He.frG_in, e⟩
  keeps := fun _ _ _ ⟨K, hK, c⟩ k => ⟨K, PySem.W.Frag.In.keeps hK k, c⟩
theorem obsCG_eq {file : Str} {as : List Addr} {fs : List (PySem.W.Frag → Bool)} {fn : List DfA} {fc : List DfC} {g : Addr → Option Obj} {s : Shared} (h : ∀ a, g a = s.heap.get? a) : obsCG file as fs fn fc g = (hookC file as fs fn fc).obs s := by
  have e : g = s.heap.get? := funext h
  rw [e] <;> rfl
section
variable {file : Str} {fs : List (PySem.W.Frag → Bool)} {fn : List DfA} {fc : List DfC} {K : PySem.W.Frag}
theorem SaysC.a (c : SaysC file fs fn fc K) : SaysA fs fn K := by
  have h1 := He.ba (congrArg (fun z : AlW => z.1) c)
  have h2 := He.ba h1.2
  have e : (fn.map fun x => seeA K (x.ad K)) ++ (fc.map fun x => seeC K (clAd K x.cls)) = (fn.map fun x => x.d.val) ++ fc.map fun x => x.d.val := congrArg (fun z : AlW => z.2) c
  have e1 := (List.append_inj e (by rw [List.length_map, List.length_map])).1
  show ((fs.all fun f => f K) && fn.all fun x => okA K (x.ad K) x.d, fn.map fun x => seeA K (x.ad K)) = (true, fn.map fun x => x.d.val)
  rw [h1.1, h2.1, e1]
  rfl
theorem SaysC.defC {P : Program} (c : SaysC file fs fn fc K) (hf : (P.main.file : Str) == file) (ht : (P.main.scope.names.lookup ("super" : Str)).isSome = false) {x : DfC} (i : Nat) (h : fc[i]? = some x := by rfl)
    (hp : ∃ ar, (x.d.params.posonlyargs ++ x.d.params.args).head? = some ar ∧ ar.arg = ("self" : Str) := by exact ⟨_, rfl, rfl⟩) :
    ∃ fd, FunC P K x.d.name x.d.qual x.d.params x.d.body x.d.scope (clAd K x.cls) (codeAd K (clAd K x.cls)) (cellAd K (clAd K x.cls)) (He.ga K x.cls) fd := by
  have h1 := He.ba (congrArg (fun z : AlW => z.1) c)
  have h2 := He.ba h1.2
  have e : (fn.map fun x => seeA K (x.ad K)) ++ (fc.map fun x => seeC K (clAd K x.cls)) = (fn.map fun x => x.d.val) ++ fc.map fun x => x.d.val := congrArg (fun z : AlW => z.2) c
  have e1 := (List.append_inj e (by rw [List.length_map, List.length_map])).2
  have e2 : (fc.map fun x => seeC K (clAd K x.cls))[i]? = (fc.map fun x => x.d.val)[i]? := by rw [e1]
  rw [List.getElem?_map, List.getElem?_map, h] at e2
  exact seeC_fun (Option.some.inj e2) (List.all_eq_true.mp h2.2 x (List.mem_of_getElem? h)) hf ht hp
end
/-! ### facts of a class of conditions -/
/-- behind the class by this name, its __init__'s super() finds that of the class b -/
def supB (x b : Str) (K : PySem.W.Frag) : Bool := decide (PySem.W.mroIn K (He.ga K x) (.ref (He.ga K x)) = some true) && (He.eqO (PySem.W.ks_superIn K (He.ga K x) (He.ga K x) "__init__") (some (some (.ref (clAd K b)))) &&
  (decide (PySem.W.typeIn K (.ref (clAd K b)) = some (.type "function")) && PySem.W.fnIn K (clAd K b)))
theorem supB_ok {x b : Str} {K : PySem.W.Frag} (h : supB x b K = true) : SupTo K (He.ga K x) (He.ga K x) (clAd K b) := by
  obtain ⟨h1, h⟩ := He.ba h
  obtain ⟨h2, h⟩ := He.ba h
  obtain ⟨h3, h4⟩ := He.ba h
  exact ⟨of_decide_eq_true h1, He.eqO_ok h2, of_decide_eq_true h3, h4⟩
end Lw

/-! ## StR -/
set_option maxHeartbeats 8000000
namespace Lw
open PySem PySem.Spec PyProof.Rows L2
open Fm (cf Asc Nm)
theorem FnG.weak {P : Program} {w : World} {K : PySem.W.Frag} {mg : Str → Option Value} {base : Heap} {k : Nat} {f : Addr} {fd : FuncData} {ps : List Str} {sp sp' : Sp} (F : FnG P w K mg base k f fd ps sp) (h : ∀ vs H Q E, sp' vs H Q E → sp vs H Q E) : FnG P w K mg base k f fd ps sp' :=
  ⟨fun vs H Q E x => F.len vs H Q E (h _ _ _ _ x), fun A outer s H args us vs Q hr he hb hv x => F.run A outer s H args us vs Q hr he hb hv (h _ _ _ _ x)⟩
/-! ### the classes, as the head looks at them -/
def zA (K : PySem.W.Frag) : Nat → Addr
  | 0 => He.ga K "Let"
  | 1 => He.ga K "Copy"
  | 2 => He.ga K "Up"
  | 3 => He.ga K "Down"
  | 4 => He.ga K "Apart"
  | 5 => He.ga K "Reverse"
  | 6 => He.ga K "Swap"
  | 7 => He.ga K "Fill"
  | 8 => He.ga K "Resize"
  | 9 => He.ga K "If"
  | _ => He.ga K "Statement"
def zW (K : PySem.W.Frag) : Sz := ⟨He.ga K "Form", zA K⟩
def conB (x : Str) (κ : Nat) (K : PySem.W.Frag) : Bool := match PySem.W.findIn K (.ref (He.ga K x)) "WORD" with
  | some (some (.str y t)) => decide (y = wordK κ) && He.eqO (PySem.W.specialIn K (.str y t) "__get__") (some none)
  | _ => false
theorem conB_ok {x : Str} {κ : Nat} {K : PySem.W.Frag} (h : conB x κ K = true) : ∃ u, Con K (He.ga K x) "WORD" (.str (wordK κ)) u := by
  unfold conB at h
  split at h
  · rename_i y t e
    obtain ⟨h1, h2⟩ := He.ba h
    have h1 := of_decide_eq_true h1
    subst h1
    exact ⟨_, e, ⟨t, rfl⟩, He.eqO_ok h2, by decide +kernel⟩
  · cases h
def metB (x m : Str) (K : PySem.W.Frag) : Bool := (He.Fa.meth x m).ok K && decide (He.ma K (He.ga K x) m = He.ma K (He.ga K "Statement") m)
theorem metB_ok {x m : Str} {K : PySem.W.Frag} (h : metB x m K = true) : Meth K (He.ga K x) m (He.fAd K ("Statement", some m)) := by
  obtain ⟨h1, h2⟩ := He.ba h
  have e := of_decide_eq_true h2
  have := He.meth_ok h1
  rw [e] at this
  exact this
def kdS (x : Str) (κ : Nat) (K : PySem.W.Frag) : Bool := (He.Fa.glo x).ok K && (insB x K && (fldA.all (fun f => (He.Fa.noat x f).ok K) && (conB x κ K && ((He.Fa.mkr x).ok K && (metB x "__eq__" K && (metB x "__str__" K && (metB x "__repr__" K &&
  (He.eqO (PySem.W.findIn K (.ref (He.ga K x)) "__ne__") (some (some (.builtin "object.__ne__"))) && (decide (PySem.W.mroIn K (He.ga K x) (.type "object") = some true) && othS.all fun tn => decide (PySem.W.subIn K (.type tn) (.ref (He.ga K x)) = some false))))))))))
structure KdS (K : PySem.W.Frag) (x : Str) (κ : Nat) : Prop where
  glo : (He.Fa.glo x).ok K = true
  ins : C8.InsC K (He.ga K x)
  no : ∀ f ∈ fldA, NoAttr K (He.ga K x) f
  con : ∃ u, Con K (He.ga K x) "WORD" (.str (wordK κ)) u
  mkk : Mk K (He.ga K x) (clAd K x)
  eq_ : Meth K (He.ga K x) "__eq__" (He.fAd K ("Statement", some "__eq__"))
  str_ : Meth K (He.ga K x) "__str__" (He.fAd K ("Statement", some "__str__"))
  repr_ : Meth K (He.ga K x) "__repr__" (He.fAd K ("Statement", some "__repr__"))
  ne_ : PySem.W.findIn K (.ref (He.ga K x)) "__ne__" = some (some (.builtin "object.__ne__"))
  obj : PySem.W.mroIn K (He.ga K x) (.type "object") = some true
  oth : ∀ tn ∈ othS, PySem.W.subIn K (.type tn) (.ref (He.ga K x)) = some false
theorem kdS_ok {x : Str} {κ : Nat} {K : PySem.W.Frag} (h : kdS x κ K = true) : KdS K x κ := by
  obtain ⟨h1, h⟩ := He.ba h
  obtain ⟨h2, h⟩ := He.ba h
  obtain ⟨h3, h⟩ := He.ba h
  obtain ⟨h4, h⟩ := He.ba h
  obtain ⟨h5, h⟩ := He.ba h
  obtain ⟨h6, h⟩ := He.ba h
  obtain ⟨h7, h⟩ := He.ba h
  obtain ⟨h8, h⟩ := He.ba h
  obtain ⟨h9, h⟩ := He.ba h
  obtain ⟨h10, h11⟩ := He.ba h
  exact ⟨h1, insB_ok h2, fun f m => He.noat_ok (List.all_eq_true.mp h3 f m), conB_ok h4, He.mkr_ok h5, metB_ok h6, metB_ok h7, metB_ok h8, He.eqO_ok h9, of_decide_eq_true h10, fun tn m => of_decide_eq_true (List.all_eq_true.mp h11 tn m)⟩
def kitsB (K : PySem.W.Frag) : Bool := (List.range 9).all fun κ => (List.range 11).all fun j => decide (PySem.W.kitOne K (.ref (zA K κ)) (.ref (zA K j)) = some (sortK κ j))
def subsB (K : PySem.W.Frag) : Bool := (List.range 9).all fun κ => (List.range 9).all fun j => (PySem.W.subIn K (.ref (zA K j)) (.ref (zA K κ))).isSome
def othB2 (K : PySem.W.Frag) : Bool := othS.all fun tn => decide (PySem.W.kitOne K (.type tn) (.ref (He.ga K "Statement")) = some false)
def supB2 (D C b : Str) (K : PySem.W.Frag) : Bool := decide (PySem.W.mroIn K (He.ga K C) (.ref (He.ga K D)) = some true) && (He.eqO (PySem.W.ks_superIn K (He.ga K C) (He.ga K D) "__init__") (some (some (.ref (clAd K b)))) &&
  (decide (PySem.W.typeIn K (.ref (clAd K b)) = some (.type "function")) && PySem.W.fnIn K (clAd K b)))
theorem supB2_ok {D C b : Str} {K : PySem.W.Frag} (h : supB2 D C b K = true) : SupTo K (He.ga K D) (He.ga K C) (clAd K b) := by
  obtain ⟨h1, h⟩ := He.ba h
  obtain ⟨h2, h⟩ := He.ba h
  obtain ⟨h3, h4⟩ := He.ba h
  exact ⟨of_decide_eq_true h1, He.eqO_ok h2, of_decide_eq_true h3, h4⟩
theorem nine {p : Nat → Prop} (h0 : p 0) (h1 : p 1) (h2 : p 2) (h3 : p 3) (h4 : p 4) (h5 : p 5) (h6 : p 6) (h7 : p 7) (h8 : p 8) : ∀ κ, κ < 9 → p κ
  | 0, _ => h0
  | 1, _ => h1
  | 2, _ => h2
  | 3, _ => h3
  | 4, _ => h4
  | 5, _ => h5
  | 6, _ => h6
  | 7, _ => h7
  | 8, _ => h8
  | κ + 9, h => absurd h (by omega)
def fileW : Str := "/claim/cut.py"
def fsW0 : List (PySem.W.Frag → Bool) := [
  (He.Fa.free "len").ok,
  (He.Fa.free "int").ok,
  (He.Fa.free "abs").ok,
  (He.Fa.free "isinstance").ok,
  (He.Fa.free "str").ok,
  (He.Fa.free "tuple").ok,
  (He.Fa.free "bool").ok,
  (He.Fa.free "all").ok,
  (He.Fa.free "sorted").ok,
  (He.Fa.free "set").ok,
  (He.Fa.free "range").ok,
  (He.Fa.free "max").ok,
  (He.Fa.free "min").ok,
  (He.Fa.free "repr").ok,
  (He.Fa.free "dict").ok,
  (He.Fa.free "sum").ok,
  (He.Fa.free "list").ok,
  (He.Fa.free "divmod").ok,
  (He.Fa.free "super").ok,
  (He.Fa.str "_LETTERS" lettersS).ok,
  (He.Fa.str "_SIGNS" signsS).ok,
  (He.Fa.str "MIDDLE" atS).ok,
  (He.Fa.int "_LONGEST_NAME" 8).ok,
  (He.Fa.glo "Form").ok,
  insB "Form",
  (He.Fa.noat "Form" "terms").ok,
  (He.Fa.noat "Form" "symbols").ok,
  (He.Fa.mkr "Form").ok,
  (He.Fa.meth "Form" "__str__").ok,
  (He.Fa.meth "Form" "__repr__").ok]
def fsW1 : List (PySem.W.Frag → Bool) := [
  stB "Form" "read",
  kdS "Let" 0,
  kdS "Copy" 1,
  kdS "Up" 2,
  kdS "Down" 3,
  kdS "Apart" 4,
  kdS "Reverse" 5,
  kdS "Swap" 6,
  kdS "Fill" 7,
  kdS "Resize" 8,
  (He.Fa.glo "If").ok,
  (He.Fa.glo "Statement").ok,
  kitsB,
  subsB,
  othB2,
  supB2 "Let" "Let" "Statement",
  supB2 "Reverse" "Reverse" "Statement",
  supB2 "Swap" "Swap" "Statement",
  supB2 "Fill" "Fill" "Statement",
  supB2 "Resize" "Resize" "Statement",
  supB2 "Up" "Up" "Copy",
  supB2 "Down" "Down" "Copy",
  supB2 "Apart" "Apart" "Copy",
  supB2 "Copy" "Copy" "Statement",
  supB2 "Copy" "Up" "Statement",
  supB2 "Copy" "Down" "Statement",
  supB2 "Copy" "Apart" "Statement",
  (He.Fa.glo "is_integer").ok,
  (He.Fa.glo "is_name").ok,
  (He.Fa.glo "is_symbol").ok]
def fsW2 : List (PySem.W.Frag → Bool) := [
  (He.Fa.glo "check_name").ok,
  (He.Fa.glo "check_form").ok,
  (He.Fa.glo "form_of").ok,
  (He.Fa.glo "form_in_text").ok,
  (He.Fa.glo "number_in_text").ok,
  (He.Fa.glo "_term_in_text").ok,
  (He.Fa.glo "_terms_of").ok,
  (He.Fa.glo "_symbols_of").ok,
  (He.Fa.glo "_pieces_of").ok,
  (He.Fa.glo "read_form").ok,
  (He.Fa.glo "_at").ok,
  (He.Fa.glo "_law_cell").ok,
  (He.Fa.glo "_law_purse").ok,
  (He.Fa.glo "_law_take").ok,
  (He.Fa.glo "_law_name").ok,
  (He.Fa.glo "_law_other_name").ok,
  (He.Fa.glo "_law_names").ok,
  (He.Fa.glo "_law_total").ok,
  (He.Fa.glo "_law_say").ok,
  (He.Fa.glo "_law_form").ok,
  (He.Fa.glo "_law_small").ok,
  (He.Fa.glo "_law_by_place").ok,
  (He.Fa.glo "_law_by_name").ok,
  (He.Fa.glo "_law_due").ok,
  (He.Fa.glo "_law_sorts").ok,
  (He.Fa.glo "_law_arguments").ok,
  (He.Fa.glo "_law_arguments_due").ok,
  (He.Fa.glo "_law_one_right").ok,
  (He.Fa.glo "_law_unlike").ok,
  (He.Fa.glo "_law_right").ok]
def fsW3 : List (PySem.W.Frag → Bool) := [
  (He.Fa.glo "law").ok]
def fsW : List (PySem.W.Frag → Bool) := fsW0 ++ (fsW1 ++ (fsW2 ++ (fsW3)))
def fnW0 : List (DfA) := [
  ⟨fun K => He.fAd K ("is_integer", none), ⟨("is_integer", none), "is_integer", "is_integer", defArgs s_is_integer, defBody s_is_integer, defScope s_is_integer, [], []⟩⟩,
  ⟨fun K => He.fAd K ("is_name", none), ⟨("is_name", none), "is_name", "is_name", defArgs s_is_name, defBody s_is_name, defScope s_is_name, [], []⟩⟩,
  ⟨fun K => He.fAd K ("is_symbol", none), ⟨("is_symbol", none), "is_symbol", "is_symbol", defArgs s_is_symbol, defBody s_is_symbol, defScope s_is_symbol, [], []⟩⟩,
  ⟨fun K => He.fAd K ("check_name", none), ⟨("check_name", none), "check_name", "check_name", defArgs s_check_name, defBody s_check_name, defScope s_check_name, [], []⟩⟩,
  ⟨fun K => He.fAd K ("check_form", none), ⟨("check_form", none), "check_form", "check_form", defArgs s_check_form, defBody s_check_form, defScope s_check_form, [], []⟩⟩,
  ⟨fun K => He.fAd K ("form_of", none), ⟨("form_of", none), "form_of", "form_of", defArgs s_form_of, defBody s_form_of, defScope s_form_of, [], []⟩⟩,
  ⟨fun K => He.fAd K ("form_in_text", none), ⟨("form_in_text", none), "form_in_text", "form_in_text", defArgs s_form_in_text, defBody s_form_in_text, defScope s_form_in_text, [], []⟩⟩,
  ⟨fun K => He.fAd K ("number_in_text", none), ⟨("number_in_text", none), "number_in_text", "number_in_text", defArgs s_number_in_text, defBody s_number_in_text, defScope s_number_in_text, [], []⟩⟩,
  ⟨fun K => He.fAd K ("_term_in_text", none), ⟨("_term_in_text", none), "_term_in_text", "_term_in_text", defArgs s__term_in_text, defBody s__term_in_text, defScope s__term_in_text, [], []⟩⟩,
  ⟨fun K => He.fAd K ("_terms_of", none), ⟨("_terms_of", none), "_terms_of", "_terms_of", defArgs s__terms_of, defBody s__terms_of, defScope s__terms_of, [], []⟩⟩,
  ⟨fun K => He.fAd K ("_symbols_of", none), ⟨("_symbols_of", none), "_symbols_of", "_symbols_of", defArgs s__symbols_of, defBody s__symbols_of, defScope s__symbols_of, [], []⟩⟩,
  ⟨fun K => He.fAd K ("_pieces_of", none), ⟨("_pieces_of", none), "_pieces_of", "_pieces_of", defArgs s__pieces_of, defBody s__pieces_of, defScope s__pieces_of, [], []⟩⟩,
  ⟨fun K => He.fAd K ("read_form", none), ⟨("read_form", none), "read_form", "read_form", defArgs s_read_form, defBody s_read_form, defScope s_read_form, [], []⟩⟩,
  ⟨fun K => He.fAd K ("_at", none), ⟨("_at", none), "_at", "_at", defArgs s__at, defBody s__at, defScope s__at, [], []⟩⟩,
  ⟨fun K => He.fAd K ("_law_cell", none), ⟨("_law_cell", none), "_law_cell", "_law_cell", defArgs s__law_cell, defBody s__law_cell, defScope s__law_cell, [], []⟩⟩,
  ⟨fun K => He.fAd K ("_law_purse", none), ⟨("_law_purse", none), "_law_purse", "_law_purse", defArgs s__law_purse, defBody s__law_purse, defScope s__law_purse, [], []⟩⟩,
  ⟨fun K => He.fAd K ("_law_take", none), ⟨("_law_take", none), "_law_take", "_law_take", defArgs s__law_take, defBody s__law_take, defScope s__law_take, [], []⟩⟩,
  ⟨fun K => He.fAd K ("_law_name", none), ⟨("_law_name", none), "_law_name", "_law_name", defArgs s__law_name, defBody s__law_name, defScope s__law_name, [], []⟩⟩,
  ⟨fun K => He.fAd K ("_law_other_name", none), ⟨("_law_other_name", none), "_law_other_name", "_law_other_name", defArgs s__law_other_name, defBody s__law_other_name, defScope s__law_other_name, [], []⟩⟩,
  ⟨fun K => He.fAd K ("_law_names", none), ⟨("_law_names", none), "_law_names", "_law_names", defArgs s__law_names, defBody s__law_names, defScope s__law_names, [], []⟩⟩,
  ⟨fun K => He.fAd K ("_law_total", none), ⟨("_law_total", none), "_law_total", "_law_total", defArgs s__law_total, defBody s__law_total, defScope s__law_total, [], []⟩⟩,
  ⟨fun K => He.fAd K ("_law_say", none), ⟨("_law_say", none), "_law_say", "_law_say", defArgs s__law_say, defBody s__law_say, defScope s__law_say, [], []⟩⟩,
  ⟨fun K => He.fAd K ("_law_form", none), ⟨("_law_form", none), "_law_form", "_law_form", defArgs s__law_form, defBody s__law_form, defScope s__law_form, [], []⟩⟩,
  ⟨fun K => He.fAd K ("_law_small", none), ⟨("_law_small", none), "_law_small", "_law_small", defArgs s__law_small, defBody s__law_small, defScope s__law_small, [], []⟩⟩,
  ⟨fun K => He.fAd K ("_law_by_place", none), ⟨("_law_by_place", none), "_law_by_place", "_law_by_place", defArgs s__law_by_place, defBody s__law_by_place, defScope s__law_by_place, [], []⟩⟩,
  ⟨fun K => He.fAd K ("_law_by_name", none), ⟨("_law_by_name", none), "_law_by_name", "_law_by_name", defArgs s__law_by_name, defBody s__law_by_name, defScope s__law_by_name, [], []⟩⟩,
  ⟨fun K => He.fAd K ("_law_due", none), ⟨("_law_due", none), "_law_due", "_law_due", defArgs s__law_due, defBody s__law_due, defScope s__law_due, [], []⟩⟩,
  ⟨fun K => He.fAd K ("_law_sorts", none), ⟨("_law_sorts", none), "_law_sorts", "_law_sorts", defArgs s__law_sorts, defBody s__law_sorts, defScope s__law_sorts, [], []⟩⟩,
  ⟨fun K => He.fAd K ("_law_arguments", none), ⟨("_law_arguments", none), "_law_arguments", "_law_arguments", defArgs s__law_arguments, defBody s__law_arguments, defScope s__law_arguments, [], []⟩⟩,
  ⟨fun K => He.fAd K ("_law_arguments_due", none), ⟨("_law_arguments_due", none), "_law_arguments_due", "_law_arguments_due", defArgs s__law_arguments_due, defBody s__law_arguments_due, defScope s__law_arguments_due, [], []⟩⟩]
def fnW1 : List (DfA) := [
  ⟨fun K => He.fAd K ("_law_one_right", none), ⟨("_law_one_right", none), "_law_one_right", "_law_one_right", defArgs s__law_one_right, defBody s__law_one_right, defScope s__law_one_right, [], []⟩⟩,
  ⟨fun K => He.fAd K ("_law_unlike", none), ⟨("_law_unlike", none), "_law_unlike", "_law_unlike", defArgs s__law_unlike, defBody s__law_unlike, defScope s__law_unlike, [], []⟩⟩,
  ⟨fun K => He.fAd K ("_law_right", none), ⟨("_law_right", none), "_law_right", "_law_right", defArgs s__law_right, defBody s__law_right, defScope s__law_right, [], []⟩⟩,
  ⟨fun K => He.fAd K ("law", none), ⟨("law", none), "law", "law", defArgs s_law, defBody s_law, defScope s_law, [], []⟩⟩,
  ⟨fun K => He.fAd K ("Form", some "__init__"), ⟨("Form", some "__init__"), "__init__", "Form.__init__", defArgs s_Form_init, defBody s_Form_init, defScope s_Form_init, [], []⟩⟩,
  ⟨fun K => He.fAd K ("Form", some "__str__"), ⟨("Form", some "__str__"), "__str__", "Form.__str__", defArgs s_Form_str, defBody s_Form_str, defScope s_Form_str, [], []⟩⟩,
  ⟨fun K => He.fAd K ("Form", some "__repr__"), ⟨("Form", some "__repr__"), "__repr__", "Form.__repr__", defArgs s_Form_repr, defBody s_Form_repr, defScope s_Form_repr, [], []⟩⟩,
  ⟨fun K => He.fAd K ("Statement", some "__init__"), ⟨("Statement", some "__init__"), "__init__", "Statement.__init__", defArgs s_Statement_init, defBody s_Statement_init, defScope s_Statement_init, [], []⟩⟩,
  ⟨fun K => He.fAd K ("Statement", some "__eq__"), ⟨("Statement", some "__eq__"), "__eq__", "Statement.__eq__", defArgs s_Statement_eq, defBody s_Statement_eq, defScope s_Statement_eq, [], []⟩⟩,
  ⟨fun K => He.fAd K ("Statement", some "__str__"), ⟨("Statement", some "__str__"), "__str__", "Statement.__str__", defArgs s_Statement_str, defBody s_Statement_str, defScope s_Statement_str, [], []⟩⟩,
  ⟨fun K => He.fAd K ("Statement", some "__repr__"), ⟨("Statement", some "__repr__"), "__repr__", "Statement.__repr__", defArgs s_Statement_repr, defBody s_Statement_repr, defScope s_Statement_repr, [], []⟩⟩,
  ⟨stAd "Form" "read", ⟨("Form", none), "read", "Form.read", defArgs s_Form_read, defBody s_Form_read, defScope s_Form_read, [], []⟩⟩]
def fnW : List (DfA) := fnW0 ++ (fnW1)
def fcW0 : List (DfC) := [
  ⟨"Let", ⟨("Let", some "__init__"), "__init__", "Let.__init__", defArgs s_Let_init, defBody s_Let_init, defScope s_Let_init, [], []⟩⟩,
  ⟨"Copy", ⟨("Copy", some "__init__"), "__init__", "Copy.__init__", defArgs s_Copy_init, defBody s_Copy_init, defScope s_Copy_init, [], []⟩⟩,
  ⟨"Up", ⟨("Up", some "__init__"), "__init__", "Up.__init__", defArgs s_Up_init, defBody s_Up_init, defScope s_Up_init, [], []⟩⟩,
  ⟨"Down", ⟨("Down", some "__init__"), "__init__", "Down.__init__", defArgs s_Down_init, defBody s_Down_init, defScope s_Down_init, [], []⟩⟩,
  ⟨"Apart", ⟨("Apart", some "__init__"), "__init__", "Apart.__init__", defArgs s_Apart_init, defBody s_Apart_init, defScope s_Apart_init, [], []⟩⟩,
  ⟨"Reverse", ⟨("Reverse", some "__init__"), "__init__", "Reverse.__init__", defArgs s_Reverse_init, defBody s_Reverse_init, defScope s_Reverse_init, [], []⟩⟩,
  ⟨"Swap", ⟨("Swap", some "__init__"), "__init__", "Swap.__init__", defArgs s_Swap_init, defBody s_Swap_init, defScope s_Swap_init, [], []⟩⟩,
  ⟨"Fill", ⟨("Fill", some "__init__"), "__init__", "Fill.__init__", defArgs s_Fill_init, defBody s_Fill_init, defScope s_Fill_init, [], []⟩⟩,
  ⟨"Resize", ⟨("Resize", some "__init__"), "__init__", "Resize.__init__", defArgs s_Resize_init, defBody s_Resize_init, defScope s_Resize_init, [], []⟩⟩]
def fcW : List (DfC) := fcW0
section
variable {P : Program} {w : World} {K : PySem.W.Frag} {h base : Heap} {mg : Str → Option Value}
theorem ta_mk (X : K.In h) (G : h.Ns mainGlobals mg) (c : SaysC fileW fsW fnW fcW K) : Ta mg := { 
    b_len := He.free_ok X G (c.a.fact 0),
    b_int := He.free_ok X G (c.a.fact 1),
    b_abs := He.free_ok X G (c.a.fact 2),
    b_isinstance := He.free_ok X G (c.a.fact 3),
    b_str := He.free_ok X G (c.a.fact 4),
    b_tuple := He.free_ok X G (c.a.fact 5),
    b_bool := He.free_ok X G (c.a.fact 6),
    b_all := He.free_ok X G (c.a.fact 7),
    b_sorted := He.free_ok X G (c.a.fact 8),
    b_set := He.free_ok X G (c.a.fact 9),
    b_range := He.free_ok X G (c.a.fact 10),
    b_max := He.free_ok X G (c.a.fact 11),
    b_min := He.free_ok X G (c.a.fact 12),
    b_repr := He.free_ok X G (c.a.fact 13),
    b_dict := He.free_ok X G (c.a.fact 14),
    b_sum := He.free_ok X G (c.a.fact 15),
    b_list := He.free_ok X G (c.a.fact 16),
    b_divmod := He.free_ok X G (c.a.fact 17),
    g__LETTERS := by
      obtain ⟨t, e⟩ := He.str_ok X G (c.a.fact 19)
      exact ⟨_, e, t, rfl⟩,
    g__SIGNS := by
      obtain ⟨t, e⟩ := He.str_ok X G (c.a.fact 20)
      exact ⟨_, e, t, rfl⟩,
    g_MIDDLE := by
      obtain ⟨t, e⟩ := He.str_ok X G (c.a.fact 21)
      exact ⟨_, e, t, rfl⟩,
    g__LONGEST_NAME := by
      obtain ⟨t, e⟩ := He.int_ok X G (c.a.fact 22)
      exact ⟨_, e, t, rfl⟩ }
theorem end_mk (hm : K.In base) (hG : base.Ns mainGlobals mg) (X : K.In h) (G : h.Ns mainGlobals mg) (c : SaysC fileW fsW fnW fcW K) (hf : (P.main.file : Str) == fileW) (ht : (P.main.scope.names.lookup ("super" : Str)).isSome = false) {fa : Addr} (hfa : mg "law" = some (.ref fa)) {fd : FuncData} (F : Fun K "law" "law" s_law fa fd) : FnG P w K mg base 15 fa fd ["_law_script"] (spLaw K) := by
  have T : Ta mg := ta_mk X G c
  have TS : Ts mg := ⟨He.free_ok X G (c.a.fact 18)⟩
  have C0 : Fc K mg (He.ga K "Form") := ⟨insB_ok (c.a.fact 24), He.noat_ok (c.a.fact 25), He.noat_ok (c.a.fact 26), ⟨_, He.glo_ok X G (c.a.fact 23), rfl⟩⟩
  have D_Let : KdS K "Let" 0 := kdS_ok (c.a.fact 31)
  have D_Copy : KdS K "Copy" 1 := kdS_ok (c.a.fact 32)
  have D_Up : KdS K "Up" 2 := kdS_ok (c.a.fact 33)
  have D_Down : KdS K "Down" 3 := kdS_ok (c.a.fact 34)
  have D_Apart : KdS K "Apart" 4 := kdS_ok (c.a.fact 35)
  have D_Reverse : KdS K "Reverse" 5 := kdS_ok (c.a.fact 36)
  have D_Swap : KdS K "Swap" 6 := kdS_ok (c.a.fact 37)
  have D_Fill : KdS K "Fill" 7 := kdS_ok (c.a.fact 38)
  have D_Resize : KdS K "Resize" 8 := kdS_ok (c.a.fact 39)
  have kits : ∀ κ j, κ < 9 → j < 11 → PySem.W.kitOne K (.ref (zA K κ)) (.ref (zA K j)) = some (sortK κ j) := fun κ j h1 h2 => of_decide_eq_true (List.all_eq_true.mp (List.all_eq_true.mp (c.a.fact 42) κ (List.mem_range.mpr h1)) j (List.mem_range.mpr h2))
  have gl : ∀ j, j < 11 → ∃ u, mg (nameK j) = some u ∧ RelV (.ref (zA K j)) u := fun j hj => by
    match j, hj with
    | 0, _ => exact ⟨_, He.glo_ok X G D_Let.glo, rfl⟩
    | 1, _ => exact ⟨_, He.glo_ok X G D_Copy.glo, rfl⟩
    | 2, _ => exact ⟨_, He.glo_ok X G D_Up.glo, rfl⟩
    | 3, _ => exact ⟨_, He.glo_ok X G D_Down.glo, rfl⟩
    | 4, _ => exact ⟨_, He.glo_ok X G D_Apart.glo, rfl⟩
    | 5, _ => exact ⟨_, He.glo_ok X G D_Reverse.glo, rfl⟩
    | 6, _ => exact ⟨_, He.glo_ok X G D_Swap.glo, rfl⟩
    | 7, _ => exact ⟨_, He.glo_ok X G D_Fill.glo, rfl⟩
    | 8, _ => exact ⟨_, He.glo_ok X G D_Resize.glo, rfl⟩
    | 9, _ => exact ⟨_, He.glo_ok X G (c.a.fact 40), rfl⟩
    | 10, _ => exact ⟨_, He.glo_ok X G (c.a.fact 41), rfl⟩
  have Z0 : Sf K mg (zW K) := ⟨(nine (D_Let.ins.cl) (D_Copy.ins.cl) (D_Up.ins.cl) (D_Down.ins.cl) (D_Apart.ins.cl) (D_Reverse.ins.cl) (D_Swap.ins.cl) (D_Fill.ins.cl) (D_Resize.ins.cl)), (nine (D_Let.no) (D_Copy.no) (D_Up.no) (D_Down.no) (D_Apart.no) (D_Reverse.no) (D_Swap.no) (D_Fill.no) (D_Resize.no)), (nine (D_Let.con) (D_Copy.con) (D_Up.con) (D_Down.con) (D_Apart.con) (D_Reverse.con) (D_Swap.con) (D_Fill.con) (D_Resize.con)), (nine (D_Let.ins) (D_Copy.ins) (D_Up.ins) (D_Down.ins) (D_Apart.ins) (D_Reverse.ins) (D_Swap.ins) (D_Fill.ins) (D_Resize.ins)), kits, gl⟩
  have S0 : So K (zW K) := ⟨fun tn m => of_decide_eq_true (List.all_eq_true.mp (c.a.fact 44) tn m)⟩
  obtain ⟨fd_is_integer, F0_is_integer⟩ := c.a.def_ 0
  have F_is_integer := Fun.ofD (st := s_is_integer) F0_is_integer
  have c_is_integer : Cal P w K mg base 1 "is_integer" ["value"] (spB K Tr.whole) := ⟨_, fd_is_integer, ok_is_integer F_is_integer T, He.glo_ok X G (c.a.fact 57), F_is_integer.kp,
    fun us hl => Fun.bound (p := fun fd => bindArgs fd ⟨us, []⟩ = (pure ((["value"] : List Str).zip us) : Sem (List (Str × Value)))) F_is_integer fun _ _ _ _ _ _ => match us, hl with | [_], _ => rfl, fun u _ => Fun.bound (p := fun fd => bindArgs fd ⟨[], (["value"] : List Str).zip [u]⟩ = (pure ((["value"] : List Str).zip [u]) : Sem (List (Str × Value)))) F_is_integer fun _ _ _ _ _ _ => rfl⟩
  obtain ⟨fd_is_name, F0_is_name⟩ := c.a.def_ 1
  have F_is_name := Fun.ofD (st := s_is_name) F0_is_name
  have c_is_name : Cal P w K mg base 1 "is_name" ["value"] (spB K Tr.name) := ⟨_, fd_is_name, ok_is_name F_is_name T, He.glo_ok X G (c.a.fact 58), F_is_name.kp,
    fun us hl => Fun.bound (p := fun fd => bindArgs fd ⟨us, []⟩ = (pure ((["value"] : List Str).zip us) : Sem (List (Str × Value)))) F_is_name fun _ _ _ _ _ _ => match us, hl with | [_], _ => rfl, fun u _ => Fun.bound (p := fun fd => bindArgs fd ⟨[], (["value"] : List Str).zip [u]⟩ = (pure ((["value"] : List Str).zip [u]) : Sem (List (Str × Value)))) F_is_name fun _ _ _ _ _ _ => rfl⟩
  obtain ⟨fd_is_symbol, F0_is_symbol⟩ := c.a.def_ 2
  have F_is_symbol := Fun.ofD (st := s_is_symbol) F0_is_symbol
  have c_is_symbol : Cal P w K mg base 2 "is_symbol" ["value"] (spB K Tr.sym) := ⟨_, fd_is_symbol, ok_is_symbol F_is_symbol T c_is_name, He.glo_ok X G (c.a.fact 59), F_is_symbol.kp,
    fun us hl => Fun.bound (p := fun fd => bindArgs fd ⟨us, []⟩ = (pure ((["value"] : List Str).zip us) : Sem (List (Str × Value)))) F_is_symbol fun _ _ _ _ _ _ => match us, hl with | [_], _ => rfl, fun u _ => Fun.bound (p := fun fd => bindArgs fd ⟨[], (["value"] : List Str).zip [u]⟩ = (pure ((["value"] : List Str).zip [u]) : Sem (List (Str × Value)))) F_is_symbol fun _ _ _ _ _ _ => rfl⟩
  obtain ⟨fd__terms_of, F0__terms_of⟩ := c.a.def_ 9
  have F__terms_of := Fun.ofD (st := s__terms_of) F0__terms_of
  have c__terms_of : Cal P w K mg base 1 "_terms_of" ["factors"] spTermsOf := ⟨_, fd__terms_of, ok_terms_of F__terms_of T, He.glo_ok X G (c.a.fact 66), F__terms_of.kp,
    fun us hl => Fun.bound (p := fun fd => bindArgs fd ⟨us, []⟩ = (pure ((["factors"] : List Str).zip us) : Sem (List (Str × Value)))) F__terms_of fun _ _ _ _ _ _ => match us, hl with | [_], _ => rfl, fun u _ => Fun.bound (p := fun fd => bindArgs fd ⟨[], (["factors"] : List Str).zip [u]⟩ = (pure ((["factors"] : List Str).zip [u]) : Sem (List (Str × Value)))) F__terms_of fun _ _ _ _ _ _ => rfl⟩
  obtain ⟨fd__symbols_of, F0__symbols_of⟩ := c.a.def_ 10
  have F__symbols_of := Fun.ofD (st := s__symbols_of) F0__symbols_of
  have c__symbols_of : Cal P w K mg base 1 "_symbols_of" ["terms"] spSymsOf := ⟨_, fd__symbols_of, ok_symbols_of F__symbols_of T, He.glo_ok X G (c.a.fact 67), F__symbols_of.kp,
    fun us hl => Fun.bound (p := fun fd => bindArgs fd ⟨us, []⟩ = (pure ((["terms"] : List Str).zip us) : Sem (List (Str × Value)))) F__symbols_of fun _ _ _ _ _ _ => match us, hl with | [_], _ => rfl, fun u _ => Fun.bound (p := fun fd => bindArgs fd ⟨[], (["terms"] : List Str).zip [u]⟩ = (pure ((["terms"] : List Str).zip [u]) : Sem (List (Str × Value)))) F__symbols_of fun _ _ _ _ _ _ => rfl⟩
  obtain ⟨fd_Form_init, F0_Form_init⟩ := c.a.def_ 34
  have F_Form_init := Fun.ofD (st := s_Form_init) F0_Form_init
  have M_new : Mk0 P w K mg base 3 "Form" (He.ga K "Form") (fun vs H Q E => vs.length = ["self"].length ∧ ∀ d, H d = none → spInit0 (He.ga K "Form") (vs ++ [V.ref d]) (upd H d (.dK [])) Q E0) := ⟨_, He.mkr_ok (c.a.fact 27), ok_Form_init F_Form_init T C0 c_is_symbol c_is_integer c__terms_of c__symbols_of (fun us hl =>
    Fun.bound (p := fun fd => bindArgs fd ⟨us, []⟩ = ((alloc ({ cls := .type "dict", data := .dict #[] } : Obj) : Sem Addr) >>= fun d => pure ((["self"] : List Str).zip us ++ ([("factors", Value.ref d)] : List (Str × Value))))) F_Form_init fun _ _ _ _ _ _ => match us, hl with | [_], _ => rfl), He.glo_ok X G (c.a.fact 23)⟩
  obtain ⟨fd_form_of, F0_form_of⟩ := c.a.def_ 5
  have F_form_of := Fun.ofD (st := s_form_of) F0_form_of
  have c_form_of : Cal P w K mg base 5 "form_of" ["factors"] (spFormOf (He.ga K "Form")) := ⟨_, fd_form_of, ok_form_of F_form_of C0 M_new c__terms_of c__symbols_of, He.glo_ok X G (c.a.fact 62), F_form_of.kp,
    fun us hl => Fun.bound (p := fun fd => bindArgs fd ⟨us, []⟩ = (pure ((["factors"] : List Str).zip us) : Sem (List (Str × Value)))) F_form_of fun _ _ _ _ _ _ => match us, hl with | [_], _ => rfl, fun u _ => Fun.bound (p := fun fd => bindArgs fd ⟨[], (["factors"] : List Str).zip [u]⟩ = (pure ((["factors"] : List Str).zip [u]) : Sem (List (Str × Value)))) F_form_of fun _ _ _ _ _ _ => rfl⟩
  obtain ⟨fd_check_form, F0_check_form⟩ := c.a.def_ 4
  have F_check_form := Fun.ofD (st := s_check_form) F0_check_form
  have c_check_form : Cal P w K mg base 1 "check_form" ["value"] (spUnit (He.ga K "Form")) := ⟨_, fd_check_form, ok_check_form F_check_form T C0, He.glo_ok X G (c.a.fact 61), F_check_form.kp,
    fun us hl => Fun.bound (p := fun fd => bindArgs fd ⟨us, []⟩ = (pure ((["value"] : List Str).zip us) : Sem (List (Str × Value)))) F_check_form fun _ _ _ _ _ _ => match us, hl with | [_], _ => rfl, fun u _ => Fun.bound (p := fun fd => bindArgs fd ⟨[], (["value"] : List Str).zip [u]⟩ = (pure ((["value"] : List Str).zip [u]) : Sem (List (Str × Value)))) F_check_form fun _ _ _ _ _ _ => rfl⟩
  obtain ⟨fd__pieces_of, F0__pieces_of⟩ := c.a.def_ 11
  have F__pieces_of := Fun.ofD (st := s__pieces_of) F0__pieces_of
  have c__pieces_of : Cal P w K mg base 1 "_pieces_of" ["terms"] spPieces := ⟨_, fd__pieces_of, ok_pieces_of F__pieces_of T, He.glo_ok X G (c.a.fact 68), F__pieces_of.kp,
    fun us hl => Fun.bound (p := fun fd => bindArgs fd ⟨us, []⟩ = (pure ((["terms"] : List Str).zip us) : Sem (List (Str × Value)))) F__pieces_of fun _ _ _ _ _ _ => match us, hl with | [_], _ => rfl, fun u _ => Fun.bound (p := fun fd => bindArgs fd ⟨[], (["terms"] : List Str).zip [u]⟩ = (pure ((["terms"] : List Str).zip [u]) : Sem (List (Str × Value)))) F__pieces_of fun _ _ _ _ _ _ => rfl⟩
  have c__pieces_ofK : CalK P w K mg base 1 "_pieces_of" ["terms"] spPieces := ⟨_, fd__pieces_of, ok_pieces_ofK F__pieces_of T, He.glo_ok X G (c.a.fact 68), F__pieces_of.kp,
    fun us hl => Fun.bound (p := fun fd => bindArgs fd ⟨us, []⟩ = (pure ((["terms"] : List Str).zip us) : Sem (List (Str × Value)))) F__pieces_of fun _ _ _ _ _ _ => match us, hl with | [_], _ => rfl⟩
  obtain ⟨fd_number_in_text, F0_number_in_text⟩ := c.a.def_ 7
  have F_number_in_text := Fun.ofD (st := s_number_in_text) F0_number_in_text
  have c_number_in_text : Cal P w K mg base 1 "number_in_text" ["digits"] spNum := ⟨_, fd_number_in_text, ok_number F_number_in_text T, He.glo_ok X G (c.a.fact 64), F_number_in_text.kp,
    fun us hl => Fun.bound (p := fun fd => bindArgs fd ⟨us, []⟩ = (pure ((["digits"] : List Str).zip us) : Sem (List (Str × Value)))) F_number_in_text fun _ _ _ _ _ _ => match us, hl with | [_], _ => rfl, fun u _ => Fun.bound (p := fun fd => bindArgs fd ⟨[], (["digits"] : List Str).zip [u]⟩ = (pure ((["digits"] : List Str).zip [u]) : Sem (List (Str × Value)))) F_number_in_text fun _ _ _ _ _ _ => rfl⟩
  obtain ⟨fd__term_in_text, F0__term_in_text⟩ := c.a.def_ 8
  have F__term_in_text := Fun.ofD (st := s__term_in_text) F0__term_in_text
  have c__term_in_text : Cal P w K mg base 3 "_term_in_text" ["word"] spTerm := ⟨_, fd__term_in_text, ok_term F__term_in_text T c_number_in_text c_is_symbol, He.glo_ok X G (c.a.fact 65), F__term_in_text.kp,
    fun us hl => Fun.bound (p := fun fd => bindArgs fd ⟨us, []⟩ = (pure ((["word"] : List Str).zip us) : Sem (List (Str × Value)))) F__term_in_text fun _ _ _ _ _ _ => match us, hl with | [_], _ => rfl, fun u _ => Fun.bound (p := fun fd => bindArgs fd ⟨[], (["word"] : List Str).zip [u]⟩ = (pure ((["word"] : List Str).zip [u]) : Sem (List (Str × Value)))) F__term_in_text fun _ _ _ _ _ _ => rfl⟩
  obtain ⟨fd_form_in_text, F0_form_in_text⟩ := c.a.def_ 6
  have F_form_in_text := Fun.ofD (st := s_form_in_text) F0_form_in_text
  have c_form_in_text : Cal P w K mg base 6 "form_in_text" ["text"] (spIn (He.ga K "Form")) := ⟨_, fd_form_in_text, ok_form_in_text F_form_in_text T C0 M_new c__term_in_text c_form_of, He.glo_ok X G (c.a.fact 63), F_form_in_text.kp,
    fun us hl => Fun.bound (p := fun fd => bindArgs fd ⟨us, []⟩ = (pure ((["text"] : List Str).zip us) : Sem (List (Str × Value)))) F_form_in_text fun _ _ _ _ _ _ => match us, hl with | [_], _ => rfl, fun u _ => Fun.bound (p := fun fd => bindArgs fd ⟨[], (["text"] : List Str).zip [u]⟩ = (pure ((["text"] : List Str).zip [u]) : Sem (List (Str × Value)))) F_form_in_text fun _ _ _ _ _ _ => rfl⟩
  obtain ⟨fd_Form_str, F0_Form_str⟩ := c.a.def_ 35
  have F_Form_str := Fun.ofD (st := s_Form_str) F0_Form_str
  have M_str : Mt P w K mg base 2 (He.ga K "Form") "__str__" ["self"] (spStr (He.ga K "Form")) := ⟨_, fd_Form_str, ok_str F_Form_str C0 c__pieces_of, He.meth_ok (c.a.fact 28),
    fun us hl => Fun.bound (p := fun fd => bindArgs fd ⟨us, []⟩ = (pure ((["self"] : List Str).zip us) : Sem (List (Str × Value)))) F_Form_str fun _ _ _ _ _ _ => match us, hl with | [_], _ => rfl,
    fun u v a b e => by simp at e⟩
  have M_strK : MtK P w K mg base 2 (He.ga K "Form") "__str__" ["self"] (spStr (He.ga K "Form")) := ⟨_, fd_Form_str, ok_strK F_Form_str C0 c__pieces_ofK, He.meth_ok (c.a.fact 28),
    fun us hl => Fun.bound (p := fun fd => bindArgs fd ⟨us, []⟩ = (pure ((["self"] : List Str).zip us) : Sem (List (Str × Value)))) F_Form_str fun _ _ _ _ _ _ => match us, hl with | [_], _ => rfl⟩
  obtain ⟨fd_Form_repr, F0_Form_repr⟩ := c.a.def_ 36
  have F_Form_repr := Fun.ofD (st := s_Form_repr) F0_Form_repr
  have M_reprK : MtK P w K mg base 7 (He.ga K "Form") "__repr__" ["self"] (spReprF (He.ga K "Form")) := ⟨_, fd_Form_repr, ok_reprK F_Form_repr T C0 M_strK, He.meth_ok (c.a.fact 29),
    fun us hl => Fun.bound (p := fun fd => bindArgs fd ⟨us, []⟩ = (pure ((["self"] : List Str).zip us) : Sem (List (Str × Value)))) F_Form_repr fun _ _ _ _ _ _ => match us, hl with | [_], _ => rfl⟩
  obtain ⟨fd_read_form, F0_read_form⟩ := c.a.def_ 12
  have F_read_form := Fun.ofD (st := s_read_form) F0_read_form
  have c_read_form : Cal P w K mg base 7 "read_form" ["text"] (spIn (He.ga K "Form")) := ⟨_, fd_read_form, ok_read_form F_read_form T C0 M_str c_form_in_text, He.glo_ok X G (c.a.fact 69), F_read_form.kp,
    fun us hl => Fun.bound (p := fun fd => bindArgs fd ⟨us, []⟩ = (pure ((["text"] : List Str).zip us) : Sem (List (Str × Value)))) F_read_form fun _ _ _ _ _ _ => match us, hl with | [_], _ => rfl, fun u _ => Fun.bound (p := fun fd => bindArgs fd ⟨[], (["text"] : List Str).zip [u]⟩ = (pure ((["text"] : List Str).zip [u]) : Sem (List (Str × Value)))) F_read_form fun _ _ _ _ _ _ => rfl⟩
  obtain ⟨fd_read, F0_read⟩ := c.a.def_ 41
  have F_read := Fun.ofD (st := s_Form_read) F0_read
  obtain ⟨g1, g2, g3, rest, g4⟩ := stB_ok (c.a.fact 30)
  have M_read : StM P w K mg base 8 (He.ga K "Form") "read" ["text"] (spIn (He.ga K "Form")) := ⟨g1, _, _, _, fd_read, rest, g2, g3, g4, F_read.kp, ok_read F_read c_read_form,
    fun us hl => Fun.bound (p := fun fd => bindArgs fd ⟨us, []⟩ = (pure ((["text"] : List Str).zip us) : Sem (List (Str × Value)))) F_read fun _ _ _ _ _ _ => match us, hl with | [_], _ => rfl⟩
  obtain ⟨fd_check_name, F0_check_name⟩ := c.a.def_ 3
  have F_check_name := Fun.ofD (st := s_check_name) F0_check_name
  have c_check_name : Cal P w K mg base 2 "check_name" ["value"] spName1 := ⟨_, fd_check_name, ok_check_name F_check_name c_is_name, He.glo_ok X G (c.a.fact 60), F_check_name.kp,
    fun us hl => Fun.bound (p := fun fd => bindArgs fd ⟨us, []⟩ = (pure ((["value"] : List Str).zip us) : Sem (List (Str × Value)))) F_check_name fun _ _ _ _ _ _ => match us, hl with | [_], _ => rfl, fun u _ => Fun.bound (p := fun fd => bindArgs fd ⟨[], (["value"] : List Str).zip [u]⟩ = (pure ((["value"] : List Str).zip [u]) : Sem (List (Str × Value)))) F_check_name fun _ _ _ _ _ _ => rfl⟩
  obtain ⟨fd__at, F0__at⟩ := c.a.def_ 13
  have F__at := Fun.ofD (st := s__at) F0__at
  have c__at : Cal P w K mg base 7 "_at" ["array", "index"] (spAt (He.ga K "Form")) := ⟨_, fd__at, ok_at (Z := (zW K)) F__at T M_str, He.glo_ok X G (c.a.fact 70), F__at.kp,
    fun us hl => Fun.bound (p := fun fd => bindArgs fd ⟨us, []⟩ = (pure ((["array", "index"] : List Str).zip us) : Sem (List (Str × Value)))) F__at fun _ _ _ _ _ _ => match us, hl with | [_, _], _ => rfl, fun u e => absurd e (by decide)⟩
  obtain ⟨fd_Statement_init, F0_Statement_init⟩ := c.a.def_ 37
  have F_Statement_init := Fun.ofD (st := s_Statement_init) F0_Statement_init
  have FI : FnG P w K mg base 1 (clAd K "Statement") fd_Statement_init ["self", "lines", "forms", "moves"] (spSInit K (zW K)) := ok_Statement_init F_Statement_init Z0
  have bI : ∀ us : List Value, us.length = ["self", "lines", "forms", "moves"].length → bindArgs fd_Statement_init ⟨us, []⟩ = pure ((["self", "lines", "forms", "moves"] : List Str).zip us) := fun us hl => Fun.bound (p := fun fd => bindArgs fd ⟨us, []⟩ = (pure ((["self", "lines", "forms", "moves"] : List Str).zip us) : Sem (List (Str × Value)))) F_Statement_init fun _ _ _ _ _ _ => match us, hl with | [_, _, _, _], _ => rfl
  obtain ⟨fd_Let, F0_Let⟩ := c.defC hf ht 0
  have F_Let : FunC P K "__init__" "Let.__init__" (defArgs s_Let_init) (defBody s_Let_init) (defScope s_Let_init) (clAd K "Let") (codeAd K (clAd K "Let")) (cellAd K (clAd K "Let")) (He.ga K "Let") fd_Let := F0_Let
  obtain ⟨fd_Copy, F0_Copy⟩ := c.defC hf ht 1
  have F_Copy : FunC P K "__init__" "Copy.__init__" (defArgs s_Copy_init) (defBody s_Copy_init) (defScope s_Copy_init) (clAd K "Copy") (codeAd K (clAd K "Copy")) (cellAd K (clAd K "Copy")) (He.ga K "Copy") fd_Copy := F0_Copy
  obtain ⟨fd_Up, F0_Up⟩ := c.defC hf ht 2
  have F_Up : FunC P K "__init__" "Up.__init__" (defArgs s_Up_init) (defBody s_Up_init) (defScope s_Up_init) (clAd K "Up") (codeAd K (clAd K "Up")) (cellAd K (clAd K "Up")) (He.ga K "Up") fd_Up := F0_Up
  obtain ⟨fd_Down, F0_Down⟩ := c.defC hf ht 3
  have F_Down : FunC P K "__init__" "Down.__init__" (defArgs s_Down_init) (defBody s_Down_init) (defScope s_Down_init) (clAd K "Down") (codeAd K (clAd K "Down")) (cellAd K (clAd K "Down")) (He.ga K "Down") fd_Down := F0_Down
  obtain ⟨fd_Apart, F0_Apart⟩ := c.defC hf ht 4
  have F_Apart : FunC P K "__init__" "Apart.__init__" (defArgs s_Apart_init) (defBody s_Apart_init) (defScope s_Apart_init) (clAd K "Apart") (codeAd K (clAd K "Apart")) (cellAd K (clAd K "Apart")) (He.ga K "Apart") fd_Apart := F0_Apart
  obtain ⟨fd_Reverse, F0_Reverse⟩ := c.defC hf ht 5
  have F_Reverse : FunC P K "__init__" "Reverse.__init__" (defArgs s_Reverse_init) (defBody s_Reverse_init) (defScope s_Reverse_init) (clAd K "Reverse") (codeAd K (clAd K "Reverse")) (cellAd K (clAd K "Reverse")) (He.ga K "Reverse") fd_Reverse := F0_Reverse
  obtain ⟨fd_Swap, F0_Swap⟩ := c.defC hf ht 6
  have F_Swap : FunC P K "__init__" "Swap.__init__" (defArgs s_Swap_init) (defBody s_Swap_init) (defScope s_Swap_init) (clAd K "Swap") (codeAd K (clAd K "Swap")) (cellAd K (clAd K "Swap")) (He.ga K "Swap") fd_Swap := F0_Swap
  obtain ⟨fd_Fill, F0_Fill⟩ := c.defC hf ht 7
  have F_Fill : FunC P K "__init__" "Fill.__init__" (defArgs s_Fill_init) (defBody s_Fill_init) (defScope s_Fill_init) (clAd K "Fill") (codeAd K (clAd K "Fill")) (cellAd K (clAd K "Fill")) (He.ga K "Fill") fd_Fill := F0_Fill
  obtain ⟨fd_Resize, F0_Resize⟩ := c.defC hf ht 8
  have F_Resize : FunC P K "__init__" "Resize.__init__" (defArgs s_Resize_init) (defBody s_Resize_init) (defScope s_Resize_init) (clAd K "Resize") (codeAd K (clAd K "Resize")) (cellAd K (clAd K "Resize")) (He.ga K "Resize") fd_Resize := F0_Resize
  have b_Let : ∀ us : List Value, us.length = ["self", "field", "form"].length → bindArgs fd_Let ⟨us, []⟩ = pure ((["self", "field", "form"] : List Str).zip us) := fun us hl => FunC.bound (p := fun fd => bindArgs fd ⟨us, []⟩ = (pure ((["self", "field", "form"] : List Str).zip us) : Sem (List (Str × Value)))) F_Let fun _ _ _ _ _ => match us, hl with | [_, _, _], _ => rfl
  have I_Let : FnG P w K mg base 9 (clAd K "Let") fd_Let ["self", "field", "form"] (spLet (zW K)) := (ok_Let_init (Z := (zW K)) FI bI c_check_name c_check_form M_str F_Let T TS C0 Z0 (supB2_ok (c.a.fact 45))).mono (by decide)
  have b_Copy : ∀ us : List Value, us.length = ["self", "target", "to", "source", "start", "amount"].length → bindArgs fd_Copy ⟨us, []⟩ = pure ((["self", "target", "to", "source", "start", "amount"] : List Str).zip us) := fun us hl => FunC.bound (p := fun fd => bindArgs fd ⟨us, []⟩ = (pure ((["self", "target", "to", "source", "start", "amount"] : List Str).zip us) : Sem (List (Str × Value)))) F_Copy fun _ _ _ _ _ => match us, hl with | [_, _, _, _, _, _], _ => rfl
  have STK : ∀ κ, 1 ≤ κ → κ ≤ 4 → SupTo K (zA K 1) (zA K κ) (clAd K "Statement") := fun κ h1 h4 => by
    match κ, h1, h4 with
    | 1, _, _ => exact supB2_ok (c.a.fact 53)
    | 2, _, _ => exact supB2_ok (c.a.fact 54)
    | 3, _, _ => exact supB2_ok (c.a.fact 55)
    | 4, _, _ => exact supB2_ok (c.a.fact 56)
  have IC : FnG P w K mg base 8 (clAd K "Copy") fd_Copy ["self", "target", "to", "source", "start", "amount"] (spCopy (zW K)) := ok_Copy_init (Z := (zW K)) FI bI c_check_name c_check_form M_str F_Copy T TS C0 Z0 STK c__at
  have I_Copy : FnG P w K mg base 9 (clAd K "Copy") fd_Copy ["self", "target", "to", "source", "start", "amount"] (spMv (zW K) 1 "target" "to" "source") := (IC.mono (by decide)).weak fun vs H Q E h => ⟨1, by decide, by decide, h⟩
  have b_Up : ∀ us : List Value, us.length = ["self", "target", "to", "source", "start", "amount"].length → bindArgs fd_Up ⟨us, []⟩ = pure ((["self", "target", "to", "source", "start", "amount"] : List Str).zip us) := fun us hl => FunC.bound (p := fun fd => bindArgs fd ⟨us, []⟩ = (pure ((["self", "target", "to", "source", "start", "amount"] : List Str).zip us) : Sem (List (Str × Value)))) F_Up fun _ _ _ _ _ => match us, hl with | [_, _, _, _, _, _], _ => rfl
  have I_Up : FnG P w K mg base 9 (clAd K "Up") fd_Up ["self", "target", "to", "source", "start", "amount"] (spMv (zW K) 2 "target" "to" "source") := ok_Up_init (Z := (zW K)) F_Up TS IC b_Copy (supB2_ok (c.a.fact 50))
  have b_Down : ∀ us : List Value, us.length = ["self", "target", "to", "source", "start", "amount"].length → bindArgs fd_Down ⟨us, []⟩ = pure ((["self", "target", "to", "source", "start", "amount"] : List Str).zip us) := fun us hl => FunC.bound (p := fun fd => bindArgs fd ⟨us, []⟩ = (pure ((["self", "target", "to", "source", "start", "amount"] : List Str).zip us) : Sem (List (Str × Value)))) F_Down fun _ _ _ _ _ => match us, hl with | [_, _, _, _, _, _], _ => rfl
  have I_Down : FnG P w K mg base 9 (clAd K "Down") fd_Down ["self", "target", "to", "source", "start", "amount"] (spMv (zW K) 3 "target" "to" "source") := ok_Down_init (Z := (zW K)) F_Down TS IC b_Copy (supB2_ok (c.a.fact 51))
  have b_Apart : ∀ us : List Value, us.length = ["self", "target", "to", "source", "start", "amount"].length → bindArgs fd_Apart ⟨us, []⟩ = pure ((["self", "target", "to", "source", "start", "amount"] : List Str).zip us) := fun us hl => FunC.bound (p := fun fd => bindArgs fd ⟨us, []⟩ = (pure ((["self", "target", "to", "source", "start", "amount"] : List Str).zip us) : Sem (List (Str × Value)))) F_Apart fun _ _ _ _ _ => match us, hl with | [_, _, _, _, _, _], _ => rfl
  have I_Apart : FnG P w K mg base 9 (clAd K "Apart") fd_Apart ["self", "target", "to", "source", "start", "amount"] (spMv (zW K) 4 "target" "to" "source") := ok_Apart_init (Z := (zW K)) F_Apart TS IC b_Copy (supB2_ok (c.a.fact 52))
  have b_Reverse : ∀ us : List Value, us.length = ["self", "array", "start", "amount"].length → bindArgs fd_Reverse ⟨us, []⟩ = pure ((["self", "array", "start", "amount"] : List Str).zip us) := fun us hl => FunC.bound (p := fun fd => bindArgs fd ⟨us, []⟩ = (pure ((["self", "array", "start", "amount"] : List Str).zip us) : Sem (List (Str × Value)))) F_Reverse fun _ _ _ _ _ => match us, hl with | [_, _, _, _], _ => rfl
  have I_Reverse : FnG P w K mg base 9 (clAd K "Reverse") fd_Reverse ["self", "array", "start", "amount"] (spRev (zW K)) := (ok_Reverse_init (Z := (zW K)) FI bI c_check_name c_check_form M_str F_Reverse T TS C0 Z0 (supB2_ok (c.a.fact 46)) c__at).mono (by decide)
  have b_Swap : ∀ us : List Value, us.length = ["self", "first", "at", "second", "start", "amount"].length → bindArgs fd_Swap ⟨us, []⟩ = pure ((["self", "first", "at", "second", "start", "amount"] : List Str).zip us) := fun us hl => FunC.bound (p := fun fd => bindArgs fd ⟨us, []⟩ = (pure ((["self", "first", "at", "second", "start", "amount"] : List Str).zip us) : Sem (List (Str × Value)))) F_Swap fun _ _ _ _ _ => match us, hl with | [_, _, _, _, _, _], _ => rfl
  have I_Swap : FnG P w K mg base 9 (clAd K "Swap") fd_Swap ["self", "first", "at", "second", "start", "amount"] (spMv (zW K) 6 "first" "at" "second") := (ok_Swap_init (Z := (zW K)) FI bI c_check_name c_check_form M_str F_Swap T TS C0 Z0 (supB2_ok (c.a.fact 47)) c__at).mono (by decide)
  have b_Fill : ∀ us : List Value, us.length = ["self", "array", "start", "amount", "letter"].length → bindArgs fd_Fill ⟨us, []⟩ = pure ((["self", "array", "start", "amount", "letter"] : List Str).zip us) := fun us hl => FunC.bound (p := fun fd => bindArgs fd ⟨us, []⟩ = (pure ((["self", "array", "start", "amount", "letter"] : List Str).zip us) : Sem (List (Str × Value)))) F_Fill fun _ _ _ _ _ => match us, hl with | [_, _, _, _, _], _ => rfl
  have I_Fill : FnG P w K mg base 9 (clAd K "Fill") fd_Fill ["self", "array", "start", "amount", "letter"] (spFill (zW K)) := (ok_Fill_init (Z := (zW K)) FI bI c_check_name c_check_form M_str F_Fill T TS C0 Z0 (supB2_ok (c.a.fact 48)) c__at c_is_integer).mono (by decide)
  have b_Resize : ∀ us : List Value, us.length = ["self", "array", "length"].length → bindArgs fd_Resize ⟨us, []⟩ = pure ((["self", "array", "length"] : List Str).zip us) := fun us hl => FunC.bound (p := fun fd => bindArgs fd ⟨us, []⟩ = (pure ((["self", "array", "length"] : List Str).zip us) : Sem (List (Str × Value)))) F_Resize fun _ _ _ _ _ => match us, hl with | [_, _, _], _ => rfl
  have I_Resize : FnG P w K mg base 9 (clAd K "Resize") fd_Resize ["self", "array", "length"] (spRes (zW K)) := (ok_Resize_init (Z := (zW K)) FI bI c_check_name c_check_form M_str F_Resize T TS C0 Z0 (supB2_ok (c.a.fact 49))).mono (by decide)
  have MK : MkS P w K mg base (zW K) := ⟨⟨_, D_Let.mkk, I_Let.p b_Let, He.glo_ok X G D_Let.glo⟩,
    ⟨_, D_Copy.mkk, I_Copy.p b_Copy, He.glo_ok X G D_Copy.glo⟩,
    ⟨_, D_Up.mkk, I_Up.p b_Up, He.glo_ok X G D_Up.glo⟩,
    ⟨_, D_Down.mkk, I_Down.p b_Down, He.glo_ok X G D_Down.glo⟩,
    ⟨_, D_Apart.mkk, I_Apart.p b_Apart, He.glo_ok X G D_Apart.glo⟩,
    ⟨_, D_Reverse.mkk, I_Reverse.p b_Reverse, He.glo_ok X G D_Reverse.glo⟩,
    ⟨_, D_Swap.mkk, I_Swap.p b_Swap, He.glo_ok X G D_Swap.glo⟩,
    ⟨_, D_Fill.mkk, I_Fill.p b_Fill, He.glo_ok X G D_Fill.glo⟩,
    ⟨_, D_Resize.mkk, I_Resize.p b_Resize, He.glo_ok X G D_Resize.glo⟩,
    ⟨_, fd_Let, D_Let.mkk, I_Let, He.glo_ok X G D_Let.glo, fun u us hl => FunC.bound (p := fun fd => bindArgs fd ⟨[u], (["form", "field"] : List Str).zip us⟩ = (pure ((["self", "field", "form"] : List Str).zip (u :: pick [1, 0] us)) : Sem (List (Str × Value)))) F_Let fun _ _ _ _ _ => match us, hl with | [_, _], _ => rfl⟩,
    ⟨_, fd_Copy, D_Copy.mkk, I_Copy, He.glo_ok X G D_Copy.glo, fun u us hl => FunC.bound (p := fun fd => bindArgs fd ⟨[u], (["amount", "start", "source", "to", "target"] : List Str).zip us⟩ = (pure ((["self", "target", "to", "source", "start", "amount"] : List Str).zip (u :: pick [4, 3, 2, 1, 0] us)) : Sem (List (Str × Value)))) F_Copy fun _ _ _ _ _ => match us, hl with | [_, _, _, _, _], _ => rfl⟩,
    ⟨_, fd_Up, D_Up.mkk, I_Up, He.glo_ok X G D_Up.glo, fun u us hl => FunC.bound (p := fun fd => bindArgs fd ⟨[u], (["target", "to", "source", "start", "amount"] : List Str).zip us⟩ = (pure ((["self", "target", "to", "source", "start", "amount"] : List Str).zip (u :: pick [0, 1, 2, 3, 4] us)) : Sem (List (Str × Value)))) F_Up fun _ _ _ _ _ => match us, hl with | [_, _, _, _, _], _ => rfl⟩,
    ⟨_, fd_Down, D_Down.mkk, I_Down, He.glo_ok X G D_Down.glo, fun u us hl => FunC.bound (p := fun fd => bindArgs fd ⟨[u], (["start", "target", "amount", "to", "source"] : List Str).zip us⟩ = (pure ((["self", "target", "to", "source", "start", "amount"] : List Str).zip (u :: pick [1, 3, 4, 0, 2] us)) : Sem (List (Str × Value)))) F_Down fun _ _ _ _ _ => match us, hl with | [_, _, _, _, _], _ => rfl⟩,
    ⟨_, fd_Apart, D_Apart.mkk, I_Apart, He.glo_ok X G D_Apart.glo, fun u us hl => FunC.bound (p := fun fd => bindArgs fd ⟨[u], (["target", "source", "to", "start", "amount"] : List Str).zip us⟩ = (pure ((["self", "target", "to", "source", "start", "amount"] : List Str).zip (u :: pick [0, 2, 1, 3, 4] us)) : Sem (List (Str × Value)))) F_Apart fun _ _ _ _ _ => match us, hl with | [_, _, _, _, _], _ => rfl⟩,
    ⟨_, fd_Reverse, D_Reverse.mkk, I_Reverse, He.glo_ok X G D_Reverse.glo, fun u us hl => FunC.bound (p := fun fd => bindArgs fd ⟨[u], (["amount", "array", "start"] : List Str).zip us⟩ = (pure ((["self", "array", "start", "amount"] : List Str).zip (u :: pick [1, 2, 0] us)) : Sem (List (Str × Value)))) F_Reverse fun _ _ _ _ _ => match us, hl with | [_, _, _], _ => rfl⟩,
    ⟨_, fd_Swap, D_Swap.mkk, I_Swap, He.glo_ok X G D_Swap.glo, fun u us hl => FunC.bound (p := fun fd => bindArgs fd ⟨[u], (["second", "start", "first", "at", "amount"] : List Str).zip us⟩ = (pure ((["self", "first", "at", "second", "start", "amount"] : List Str).zip (u :: pick [2, 3, 0, 1, 4] us)) : Sem (List (Str × Value)))) F_Swap fun _ _ _ _ _ => match us, hl with | [_, _, _, _, _], _ => rfl⟩,
    ⟨_, fd_Fill, D_Fill.mkk, I_Fill, He.glo_ok X G D_Fill.glo, fun u us hl => FunC.bound (p := fun fd => bindArgs fd ⟨[u], (["letter", "start", "amount", "array"] : List Str).zip us⟩ = (pure ((["self", "array", "start", "amount", "letter"] : List Str).zip (u :: pick [3, 1, 2, 0] us)) : Sem (List (Str × Value)))) F_Fill fun _ _ _ _ _ => match us, hl with | [_, _, _, _], _ => rfl⟩,
    ⟨_, fd_Resize, D_Resize.mkk, I_Resize, He.glo_ok X G D_Resize.glo, fun u us hl => FunC.bound (p := fun fd => bindArgs fd ⟨[u], (["length", "array"] : List Str).zip us⟩ = (pure ((["self", "array", "length"] : List Str).zip (u :: pick [1, 0] us)) : Sem (List (Str × Value)))) F_Resize fun _ _ _ _ _ => match us, hl with | [_, _], _ => rfl⟩,
    ⟨_, fd_Copy, D_Copy.mkk, I_Copy, He.glo_ok X G D_Copy.glo, fun u us hl => FunC.bound (p := fun fd => bindArgs fd ⟨[u], (["target", "to", "source", "start", "amount"] : List Str).zip us⟩ = (pure ((["self", "target", "to", "source", "start", "amount"] : List Str).zip (u :: pick [0, 1, 2, 3, 4] us)) : Sem (List (Str × Value)))) F_Copy fun _ _ _ _ _ => match us, hl with | [_, _, _, _, _], _ => rfl⟩⟩
  obtain ⟨fd_Statement_eq, F0_Statement_eq⟩ := c.a.def_ 38
  have F_Statement_eq := Fun.ofD (st := s_Statement_eq) F0_Statement_eq
  obtain ⟨fd_Statement_str, F0_Statement_str⟩ := c.a.def_ 39
  have F_Statement_str := Fun.ofD (st := s_Statement_str) F0_Statement_str
  obtain ⟨fd_Statement_repr, F0_Statement_repr⟩ := c.a.def_ 40
  have F_Statement_repr := Fun.ofD (st := s_Statement_repr) F0_Statement_repr
  have kn : ∀ {p : Addr → Prop}, (∀ κ, κ < 9 → p (zA K κ)) → ∀ C, KnS (zW K) C → p C := fun {p} h C ⟨κ, hκ, e⟩ => by
    rw [e]
    exact h κ hκ
  have EQ : EqF P w K mg base 1 (KnS (zW K)) ["self", "other"] (spSEq K (zW K)) := ⟨⟨_, fd_Statement_eq, ok_Statement_eq F_Statement_eq T Z0 S0, kn (nine (D_Let.eq_) (D_Copy.eq_) (D_Up.eq_) (D_Down.eq_) (D_Apart.eq_) (D_Reverse.eq_) (D_Swap.eq_) (D_Fill.eq_) (D_Resize.eq_)), fun us hl => Fun.bound (p := fun fd => bindArgs fd ⟨us, []⟩ = (pure ((["self", "other"] : List Str).zip us) : Sem (List (Str × Value)))) F_Statement_eq fun _ _ _ _ _ _ => match us, hl with | [_, _], _ => rfl⟩, kn (nine (D_Let.ne_) (D_Copy.ne_) (D_Up.ne_) (D_Down.ne_) (D_Apart.ne_) (D_Reverse.ne_) (D_Swap.ne_) (D_Fill.ne_) (D_Resize.ne_)), kn (nine (D_Let.obj) (D_Copy.obj) (D_Up.obj) (D_Down.obj) (D_Apart.obj) (D_Reverse.obj) (D_Swap.obj) (D_Fill.obj) (D_Resize.obj)),
    fun C D ⟨κ, hκ, e⟩ ⟨j, hj, e2⟩ => by
      rw [e, e2]
      exact Option.isSome_iff_exists.mp (List.all_eq_true.mp (List.all_eq_true.mp (c.a.fact 43) κ (List.mem_range.mpr hκ)) j (List.mem_range.mpr hj)),
    fun C tn k m => kn (p := fun C => PySem.W.subIn K (.type tn) (.ref C) = some false) (nine (p := fun κ => PySem.W.subIn K (.type tn) (.ref (zA K κ)) = some false) (D_Let.oth tn m) (D_Copy.oth tn m) (D_Up.oth tn m) (D_Down.oth tn m) (D_Apart.oth tn m) (D_Reverse.oth tn m) (D_Swap.oth tn m) (D_Fill.oth tn m) (D_Resize.oth tn m)) C k⟩
  have M_sstr : MtF P w K mg base 1 (KnS (zW K)) "__str__" ["self"] (spSStr (zW K)) := ⟨kn (p := fun C => Mt P w K mg base 1 C "__str__" ["self"] (spSStr (zW K))) (nine (⟨_, fd_Statement_str, ok_Statement_str F_Statement_str Z0, D_Let.str_, fun us hl => Fun.bound (p := fun fd => bindArgs fd ⟨us, []⟩ = (pure ((["self"] : List Str).zip us) : Sem (List (Str × Value)))) F_Statement_str fun _ _ _ _ _ _ => match us, hl with | [_], _ => rfl, fun u v a b e => by simp at e⟩) (⟨_, fd_Statement_str, ok_Statement_str F_Statement_str Z0, D_Copy.str_, fun us hl => Fun.bound (p := fun fd => bindArgs fd ⟨us, []⟩ = (pure ((["self"] : List Str).zip us) : Sem (List (Str × Value)))) F_Statement_str fun _ _ _ _ _ _ => match us, hl with | [_], _ => rfl, fun u v a b e => by simp at e⟩) (⟨_, fd_Statement_str, ok_Statement_str F_Statement_str Z0, D_Up.str_, fun us hl => Fun.bound (p := fun fd => bindArgs fd ⟨us, []⟩ = (pure ((["self"] : List Str).zip us) : Sem (List (Str × Value)))) F_Statement_str fun _ _ _ _ _ _ => match us, hl with | [_], _ => rfl, fun u v a b e => by simp at e⟩) (⟨_, fd_Statement_str, ok_Statement_str F_Statement_str Z0, D_Down.str_, fun us hl => Fun.bound (p := fun fd => bindArgs fd ⟨us, []⟩ = (pure ((["self"] : List Str).zip us) : Sem (List (Str × Value)))) F_Statement_str fun _ _ _ _ _ _ => match us, hl with | [_], _ => rfl, fun u v a b e => by simp at e⟩) (⟨_, fd_Statement_str, ok_Statement_str F_Statement_str Z0, D_Apart.str_, fun us hl => Fun.bound (p := fun fd => bindArgs fd ⟨us, []⟩ = (pure ((["self"] : List Str).zip us) : Sem (List (Str × Value)))) F_Statement_str fun _ _ _ _ _ _ => match us, hl with | [_], _ => rfl, fun u v a b e => by simp at e⟩) (⟨_, fd_Statement_str, ok_Statement_str F_Statement_str Z0, D_Reverse.str_, fun us hl => Fun.bound (p := fun fd => bindArgs fd ⟨us, []⟩ = (pure ((["self"] : List Str).zip us) : Sem (List (Str × Value)))) F_Statement_str fun _ _ _ _ _ _ => match us, hl with | [_], _ => rfl, fun u v a b e => by simp at e⟩) (⟨_, fd_Statement_str, ok_Statement_str F_Statement_str Z0, D_Swap.str_, fun us hl => Fun.bound (p := fun fd => bindArgs fd ⟨us, []⟩ = (pure ((["self"] : List Str).zip us) : Sem (List (Str × Value)))) F_Statement_str fun _ _ _ _ _ _ => match us, hl with | [_], _ => rfl, fun u v a b e => by simp at e⟩) (⟨_, fd_Statement_str, ok_Statement_str F_Statement_str Z0, D_Fill.str_, fun us hl => Fun.bound (p := fun fd => bindArgs fd ⟨us, []⟩ = (pure ((["self"] : List Str).zip us) : Sem (List (Str × Value)))) F_Statement_str fun _ _ _ _ _ _ => match us, hl with | [_], _ => rfl, fun u v a b e => by simp at e⟩) (⟨_, fd_Statement_str, ok_Statement_str F_Statement_str Z0, D_Resize.str_, fun us hl => Fun.bound (p := fun fd => bindArgs fd ⟨us, []⟩ = (pure ((["self"] : List Str).zip us) : Sem (List (Str × Value)))) F_Statement_str fun _ _ _ _ _ _ => match us, hl with | [_], _ => rfl, fun u v a b e => by simp at e⟩))⟩
  have M_srepr : MtF P w K mg base 1 (KnS (zW K)) "__repr__" ["self"] (spSRepr (zW K)) := ⟨kn (p := fun C => Mt P w K mg base 1 C "__repr__" ["self"] (spSRepr (zW K))) (nine (⟨_, fd_Statement_repr, ok_Statement_repr F_Statement_repr Z0, D_Let.repr_, fun us hl => Fun.bound (p := fun fd => bindArgs fd ⟨us, []⟩ = (pure ((["self"] : List Str).zip us) : Sem (List (Str × Value)))) F_Statement_repr fun _ _ _ _ _ _ => match us, hl with | [_], _ => rfl, fun u v a b e => by simp at e⟩) (⟨_, fd_Statement_repr, ok_Statement_repr F_Statement_repr Z0, D_Copy.repr_, fun us hl => Fun.bound (p := fun fd => bindArgs fd ⟨us, []⟩ = (pure ((["self"] : List Str).zip us) : Sem (List (Str × Value)))) F_Statement_repr fun _ _ _ _ _ _ => match us, hl with | [_], _ => rfl, fun u v a b e => by simp at e⟩) (⟨_, fd_Statement_repr, ok_Statement_repr F_Statement_repr Z0, D_Up.repr_, fun us hl => Fun.bound (p := fun fd => bindArgs fd ⟨us, []⟩ = (pure ((["self"] : List Str).zip us) : Sem (List (Str × Value)))) F_Statement_repr fun _ _ _ _ _ _ => match us, hl with | [_], _ => rfl, fun u v a b e => by simp at e⟩) (⟨_, fd_Statement_repr, ok_Statement_repr F_Statement_repr Z0, D_Down.repr_, fun us hl => Fun.bound (p := fun fd => bindArgs fd ⟨us, []⟩ = (pure ((["self"] : List Str).zip us) : Sem (List (Str × Value)))) F_Statement_repr fun _ _ _ _ _ _ => match us, hl with | [_], _ => rfl, fun u v a b e => by simp at e⟩) (⟨_, fd_Statement_repr, ok_Statement_repr F_Statement_repr Z0, D_Apart.repr_, fun us hl => Fun.bound (p := fun fd => bindArgs fd ⟨us, []⟩ = (pure ((["self"] : List Str).zip us) : Sem (List (Str × Value)))) F_Statement_repr fun _ _ _ _ _ _ => match us, hl with | [_], _ => rfl, fun u v a b e => by simp at e⟩) (⟨_, fd_Statement_repr, ok_Statement_repr F_Statement_repr Z0, D_Reverse.repr_, fun us hl => Fun.bound (p := fun fd => bindArgs fd ⟨us, []⟩ = (pure ((["self"] : List Str).zip us) : Sem (List (Str × Value)))) F_Statement_repr fun _ _ _ _ _ _ => match us, hl with | [_], _ => rfl, fun u v a b e => by simp at e⟩) (⟨_, fd_Statement_repr, ok_Statement_repr F_Statement_repr Z0, D_Swap.repr_, fun us hl => Fun.bound (p := fun fd => bindArgs fd ⟨us, []⟩ = (pure ((["self"] : List Str).zip us) : Sem (List (Str × Value)))) F_Statement_repr fun _ _ _ _ _ _ => match us, hl with | [_], _ => rfl, fun u v a b e => by simp at e⟩) (⟨_, fd_Statement_repr, ok_Statement_repr F_Statement_repr Z0, D_Fill.repr_, fun us hl => Fun.bound (p := fun fd => bindArgs fd ⟨us, []⟩ = (pure ((["self"] : List Str).zip us) : Sem (List (Str × Value)))) F_Statement_repr fun _ _ _ _ _ _ => match us, hl with | [_], _ => rfl, fun u v a b e => by simp at e⟩) (⟨_, fd_Statement_repr, ok_Statement_repr F_Statement_repr Z0, D_Resize.repr_, fun us hl => Fun.bound (p := fun fd => bindArgs fd ⟨us, []⟩ = (pure ((["self"] : List Str).zip us) : Sem (List (Str × Value)))) F_Statement_repr fun _ _ _ _ _ _ => match us, hl with | [_], _ => rfl, fun u v a b e => by simp at e⟩))⟩
  obtain ⟨fd__law_cell, F0__law_cell⟩ := c.a.def_ 14
  have F__law_cell := Fun.ofD (st := s__law_cell) F0__law_cell
  have c__law_cell : Cal P w K mg base 1 "_law_cell" ["_law_script", "_law_k"] (spCellI K) := ⟨_, fd__law_cell, ok_cell F__law_cell T.toBlt, He.glo_ok X G (c.a.fact 71), F__law_cell.kp,
    fun us hl => Fun.bound (p := fun fd => bindArgs fd ⟨us, []⟩ = (pure ((["_law_script", "_law_k"] : List Str).zip us) : Sem (List (Str × Value)))) F__law_cell fun _ _ _ _ _ _ => match us, hl with | [_, _], _ => rfl, fun u e => absurd e (by decide)⟩
  obtain ⟨fd__law_purse, F0__law_purse⟩ := c.a.def_ 15
  have F__law_purse := Fun.ofD (st := s__law_purse) F0__law_purse
  have c__law_purse : Cal P w K mg base 1 "_law_purse" ["_law_number"] spPurse := ⟨_, fd__law_purse, ok_purse F__law_purse T.toBlt, He.glo_ok X G (c.a.fact 72), F__law_purse.kp,
    fun us hl => Fun.bound (p := fun fd => bindArgs fd ⟨us, []⟩ = (pure ((["_law_number"] : List Str).zip us) : Sem (List (Str × Value)))) F__law_purse fun _ _ _ _ _ _ => match us, hl with | [_], _ => rfl, fun u _ => Fun.bound (p := fun fd => bindArgs fd ⟨[], (["_law_number"] : List Str).zip [u]⟩ = (pure ((["_law_number"] : List Str).zip [u]) : Sem (List (Str × Value)))) F__law_purse fun _ _ _ _ _ _ => rfl⟩
  obtain ⟨fd__law_take, F0__law_take⟩ := c.a.def_ 16
  have F__law_take := Fun.ofD (st := s__law_take) F0__law_take
  have c__law_take : Cal P w K mg base 1 "_law_take" ["_law_purse_here", "_law_many"] spTake := ⟨_, fd__law_take, ok_take F__law_take T.toBlt, He.glo_ok X G (c.a.fact 73), F__law_take.kp,
    fun us hl => Fun.bound (p := fun fd => bindArgs fd ⟨us, []⟩ = (pure ((["_law_purse_here", "_law_many"] : List Str).zip us) : Sem (List (Str × Value)))) F__law_take fun _ _ _ _ _ _ => match us, hl with | [_, _], _ => rfl, fun u e => absurd e (by decide)⟩
  obtain ⟨fd__law_name, F0__law_name⟩ := c.a.def_ 17
  have F__law_name := Fun.ofD (st := s__law_name) F0__law_name
  have c__law_name : Cal P w K mg base 2 "_law_name" ["_law_purse_here"] spNameP := ⟨_, fd__law_name, ok_law_name c__law_take F__law_name T, He.glo_ok X G (c.a.fact 74), F__law_name.kp,
    fun us hl => Fun.bound (p := fun fd => bindArgs fd ⟨us, []⟩ = (pure ((["_law_purse_here"] : List Str).zip us) : Sem (List (Str × Value)))) F__law_name fun _ _ _ _ _ _ => match us, hl with | [_], _ => rfl, fun u _ => Fun.bound (p := fun fd => bindArgs fd ⟨[], (["_law_purse_here"] : List Str).zip [u]⟩ = (pure ((["_law_purse_here"] : List Str).zip [u]) : Sem (List (Str × Value)))) F__law_name fun _ _ _ _ _ _ => rfl⟩
  obtain ⟨fd__law_other_name, F0__law_other_name⟩ := c.a.def_ 18
  have F__law_other_name := Fun.ofD (st := s__law_other_name) F0__law_other_name
  have c__law_other_name : Cal P w K mg base 3 "_law_other_name" ["_law_purse_here", "_law_taken"] spOther := ⟨_, fd__law_other_name, ok_law_other_name c__law_take F__law_other_name T c__law_name, He.glo_ok X G (c.a.fact 75), F__law_other_name.kp,
    fun us hl => Fun.bound (p := fun fd => bindArgs fd ⟨us, []⟩ = (pure ((["_law_purse_here", "_law_taken"] : List Str).zip us) : Sem (List (Str × Value)))) F__law_other_name fun _ _ _ _ _ _ => match us, hl with | [_, _], _ => rfl, fun u e => absurd e (by decide)⟩
  obtain ⟨fd__law_names, F0__law_names⟩ := c.a.def_ 19
  have F__law_names := Fun.ofD (st := s__law_names) F0__law_names
  have c__law_names : Cal P w K mg base 4 "_law_names" ["_law_purse_here", "_law_many"] spNamesP := ⟨_, fd__law_names, ok_law_names c__law_take F__law_names T c__law_other_name, He.glo_ok X G (c.a.fact 76), F__law_names.kp,
    fun us hl => Fun.bound (p := fun fd => bindArgs fd ⟨us, []⟩ = (pure ((["_law_purse_here", "_law_many"] : List Str).zip us) : Sem (List (Str × Value)))) F__law_names fun _ _ _ _ _ _ => match us, hl with | [_, _], _ => rfl, fun u e => absurd e (by decide)⟩
  obtain ⟨fd__law_total, F0__law_total⟩ := c.a.def_ 20
  have F__law_total := Fun.ofD (st := s__law_total) F0__law_total
  have c__law_total : Cal P w K mg base 1 "_law_total" ["_law_pairs"] spTotal := ⟨_, fd__law_total, ok_law_total F__law_total T, He.glo_ok X G (c.a.fact 77), F__law_total.kp,
    fun us hl => Fun.bound (p := fun fd => bindArgs fd ⟨us, []⟩ = (pure ((["_law_pairs"] : List Str).zip us) : Sem (List (Str × Value)))) F__law_total fun _ _ _ _ _ _ => match us, hl with | [_], _ => rfl, fun u _ => Fun.bound (p := fun fd => bindArgs fd ⟨[], (["_law_pairs"] : List Str).zip [u]⟩ = (pure ((["_law_pairs"] : List Str).zip [u]) : Sem (List (Str × Value)))) F__law_total fun _ _ _ _ _ _ => rfl⟩
  obtain ⟨fd__law_small, F0__law_small⟩ := c.a.def_ 23
  have F__law_small := Fun.ofD (st := s__law_small) F0__law_small
  have c__law_small : Cal P w K mg base 1 "_law_small" ["_law_terms"] spSmall := ⟨_, fd__law_small, ok_law_small F__law_small T, He.glo_ok X G (c.a.fact 80), F__law_small.kp,
    fun us hl => Fun.bound (p := fun fd => bindArgs fd ⟨us, []⟩ = (pure ((["_law_terms"] : List Str).zip us) : Sem (List (Str × Value)))) F__law_small fun _ _ _ _ _ _ => match us, hl with | [_], _ => rfl, fun u _ => Fun.bound (p := fun fd => bindArgs fd ⟨[], (["_law_terms"] : List Str).zip [u]⟩ = (pure ((["_law_terms"] : List Str).zip [u]) : Sem (List (Str × Value)))) F__law_small fun _ _ _ _ _ _ => rfl⟩
  obtain ⟨fd__law_form, F0__law_form⟩ := c.a.def_ 22
  have F__law_form := Fun.ofD (st := s__law_form) F0__law_form
  have c__law_form : Cal P w K mg base 2 "_law_form" ["_law_purse_here", "_law_symbols"] spFormP := ⟨_, fd__law_form, ok_law_form F__law_form T c__law_take c__law_total c__law_small, He.glo_ok X G (c.a.fact 79), F__law_form.kp,
    fun us hl => Fun.bound (p := fun fd => bindArgs fd ⟨us, []⟩ = (pure ((["_law_purse_here", "_law_symbols"] : List Str).zip us) : Sem (List (Str × Value)))) F__law_form fun _ _ _ _ _ _ => match us, hl with | [_, _], _ => rfl, fun u e => absurd e (by decide)⟩
  obtain ⟨fd__law_say, F0__law_say⟩ := c.a.def_ 21
  have F__law_say := Fun.ofD (st := s__law_say) F0__law_say
  have c__law_say : Cal P w K mg base 1 "_law_say" ["_law_terms"] spSay := ⟨_, fd__law_say, ok_law_say F__law_say T, He.glo_ok X G (c.a.fact 78), F__law_say.kp,
    fun us hl => Fun.bound (p := fun fd => bindArgs fd ⟨us, []⟩ = (pure ((["_law_terms"] : List Str).zip us) : Sem (List (Str × Value)))) F__law_say fun _ _ _ _ _ _ => match us, hl with | [_], _ => rfl, fun u _ => Fun.bound (p := fun fd => bindArgs fd ⟨[], (["_law_terms"] : List Str).zip [u]⟩ = (pure ((["_law_terms"] : List Str).zip [u]) : Sem (List (Str × Value)))) F__law_say fun _ _ _ _ _ _ => rfl⟩
  obtain ⟨fd__law_by_place, F0__law_by_place⟩ := c.a.def_ 24
  have F__law_by_place := Fun.ofD (st := s__law_by_place) F0__law_by_place
  have c__law_by_place : Cal P w K mg base 11 "_law_by_place" ["_law_tags", "_law_some", "_law_code"] (spTen K (zW K)) := ⟨_, fd__law_by_place, ok_law_by_place (Z := (zW K)) F__law_by_place T MK, He.glo_ok X G (c.a.fact 81), F__law_by_place.kp,
    fun us hl => Fun.bound (p := fun fd => bindArgs fd ⟨us, []⟩ = (pure ((["_law_tags", "_law_some", "_law_code"] : List Str).zip us) : Sem (List (Str × Value)))) F__law_by_place fun _ _ _ _ _ _ => match us, hl with | [_, _, _], _ => rfl, fun u e => absurd e (by decide)⟩
  obtain ⟨fd__law_by_name, F0__law_by_name⟩ := c.a.def_ 25
  have F__law_by_name := Fun.ofD (st := s__law_by_name) F0__law_by_name
  have c__law_by_name : Cal P w K mg base 11 "_law_by_name" ["_law_tags", "_law_some", "_law_code"] (spTen K (zW K)) := ⟨_, fd__law_by_name, ok_law_by_name (Z := (zW K)) F__law_by_name T MK, He.glo_ok X G (c.a.fact 82), F__law_by_name.kp,
    fun us hl => Fun.bound (p := fun fd => bindArgs fd ⟨us, []⟩ = (pure ((["_law_tags", "_law_some", "_law_code"] : List Str).zip us) : Sem (List (Str × Value)))) F__law_by_name fun _ _ _ _ _ _ => match us, hl with | [_, _, _], _ => rfl, fun u e => absurd e (by decide)⟩
  obtain ⟨fd__law_due, F0__law_due⟩ := c.a.def_ 26
  have F__law_due := Fun.ofD (st := s__law_due) F0__law_due
  have c__law_due : Cal P w K mg base 1 "_law_due" ["_law_tags", "_law_said", "_law_code"] (spDue K) := ⟨_, fd__law_due, ok_law_due F__law_due T, He.glo_ok X G (c.a.fact 83), F__law_due.kp,
    fun us hl => Fun.bound (p := fun fd => bindArgs fd ⟨us, []⟩ = (pure ((["_law_tags", "_law_said", "_law_code"] : List Str).zip us) : Sem (List (Str × Value)))) F__law_due fun _ _ _ _ _ _ => match us, hl with | [_, _, _], _ => rfl, fun u e => absurd e (by decide)⟩
  obtain ⟨fd__law_sorts, F0__law_sorts⟩ := c.a.def_ 27
  have F__law_sorts := Fun.ofD (st := s__law_sorts) F0__law_sorts
  have c__law_sorts : Cal P w K mg base 1 "_law_sorts" ["_law_made"] (spSorts (zW K)) := ⟨_, fd__law_sorts, ok_law_sorts (Z := (zW K)) F__law_sorts T Z0, He.glo_ok X G (c.a.fact 84), F__law_sorts.kp,
    fun us hl => Fun.bound (p := fun fd => bindArgs fd ⟨us, []⟩ = (pure ((["_law_made"] : List Str).zip us) : Sem (List (Str × Value)))) F__law_sorts fun _ _ _ _ _ _ => match us, hl with | [_], _ => rfl, fun u _ => Fun.bound (p := fun fd => bindArgs fd ⟨[], (["_law_made"] : List Str).zip [u]⟩ = (pure ((["_law_made"] : List Str).zip [u]) : Sem (List (Str × Value)))) F__law_sorts fun _ _ _ _ _ _ => rfl⟩
  obtain ⟨fd__law_arguments, F0__law_arguments⟩ := c.a.def_ 28
  have F__law_arguments := Fun.ofD (st := s__law_arguments) F0__law_arguments
  have c__law_arguments : Cal P w K mg base 1 "_law_arguments" ["_law_made", "_law_spot"] (spArgs (zW K)) := ⟨_, fd__law_arguments, ok_law_arguments (Z := (zW K)) F__law_arguments T Z0, He.glo_ok X G (c.a.fact 85), F__law_arguments.kp,
    fun us hl => Fun.bound (p := fun fd => bindArgs fd ⟨us, []⟩ = (pure ((["_law_made", "_law_spot"] : List Str).zip us) : Sem (List (Str × Value)))) F__law_arguments fun _ _ _ _ _ _ => match us, hl with | [_, _], _ => rfl, fun u e => absurd e (by decide)⟩
  obtain ⟨fd__law_arguments_due, F0__law_arguments_due⟩ := c.a.def_ 29
  have F__law_arguments_due := Fun.ofD (st := s__law_arguments_due) F0__law_arguments_due
  have c__law_arguments_due : Cal P w K mg base 1 "_law_arguments_due" ["_law_tags", "_law_some", "_law_code", "_law_spot"] spArgsDue := ⟨_, fd__law_arguments_due, ok_law_arguments_due F__law_arguments_due T, He.glo_ok X G (c.a.fact 86), F__law_arguments_due.kp,
    fun us hl => Fun.bound (p := fun fd => bindArgs fd ⟨us, []⟩ = (pure ((["_law_tags", "_law_some", "_law_code", "_law_spot"] : List Str).zip us) : Sem (List (Str × Value)))) F__law_arguments_due fun _ _ _ _ _ _ => match us, hl with | [_, _, _, _], _ => rfl, fun u e => absurd e (by decide)⟩
  obtain ⟨fd__law_one_right, F0__law_one_right⟩ := c.a.def_ 30
  have F__law_one_right := Fun.ofD (st := s__law_one_right) F0__law_one_right
  have c__law_one_right : Cal P w K mg base 10 "_law_one_right" ["_law_made", "_law_line", "_law_spot"] (spOne (zW K)) := ⟨_, fd__law_one_right, ok_law_one_right (Z := (zW K)) F__law_one_right T Z0 M_sstr M_srepr c__law_sorts, He.glo_ok X G (c.a.fact 87), F__law_one_right.kp,
    fun us hl => Fun.bound (p := fun fd => bindArgs fd ⟨us, []⟩ = (pure ((["_law_made", "_law_line", "_law_spot"] : List Str).zip us) : Sem (List (Str × Value)))) F__law_one_right fun _ _ _ _ _ _ => match us, hl with | [_, _, _], _ => rfl, fun u e => absurd e (by decide)⟩
  obtain ⟨fd__law_unlike, F0__law_unlike⟩ := c.a.def_ 31
  have F__law_unlike := Fun.ofD (st := s__law_unlike) F0__law_unlike
  have c__law_unlike : Cal P w K mg base 10 "_law_unlike" ["_law_made", "_law_line"] (spUnlike (zW K)) := ⟨_, fd__law_unlike, ok_law_unlike (Z := (zW K)) F__law_unlike T EQ, He.glo_ok X G (c.a.fact 88), F__law_unlike.kp,
    fun us hl => Fun.bound (p := fun fd => bindArgs fd ⟨us, []⟩ = (pure ((["_law_made", "_law_line"] : List Str).zip us) : Sem (List (Str × Value)))) F__law_unlike fun _ _ _ _ _ _ => match us, hl with | [_, _], _ => rfl, fun u e => absurd e (by decide)⟩
  obtain ⟨fd__law_right, F0__law_right⟩ := c.a.def_ 32
  have F__law_right := Fun.ofD (st := s__law_right) F0__law_right
  have c__law_right : Cal P w K mg base 14 "_law_right" ["_law_purse_here"] spRight := ⟨_, fd__law_right, ok_law_right (Z := (zW K)) c__law_take c__law_names c__law_form c__law_say C0 M_read c__law_by_place c__law_by_name c__law_due c__law_one_right c__law_arguments c__law_arguments_due c__law_unlike M_reprK EQ F__law_right T, He.glo_ok X G (c.a.fact 89), F__law_right.kp,
    fun us hl => Fun.bound (p := fun fd => bindArgs fd ⟨us, []⟩ = (pure ((["_law_purse_here"] : List Str).zip us) : Sem (List (Str × Value)))) F__law_right fun _ _ _ _ _ _ => match us, hl with | [_], _ => rfl, fun u _ => Fun.bound (p := fun fd => bindArgs fd ⟨[], (["_law_purse_here"] : List Str).zip [u]⟩ = (pure ((["_law_purse_here"] : List Str).zip [u]) : Sem (List (Str × Value)))) F__law_right fun _ _ _ _ _ _ => rfl⟩
  exact ok_law F T c__law_cell c__law_purse c__law_right
end
def looseW : List Str := [("_wall" : Str), ("InputError" : Str), ("InvalidName" : Str), ("InvalidFactor" : Str), ("InvalidText" : Str), ("InvalidValues" : Str), ("InvalidTruth" : Str), ("InvalidLetter" : Str), ("NotAForm" : Str), ("NotACondition" : Str), ("InvalidBranch" : Str), ("LimitError" : Str), ("TooMany" : Str), ("_LETTERS" : Str), ("_SIGNS" : Str), ("_LONGEST_NAME" : Str), ("MIDDLE" : Str), ("is_integer" : Str), ("is_name" : Str), ("check_name" : Str), ("is_symbol" : Str), ("is_values" : Str), ("_is_worth" : Str), ("table_of" : Str), ("Form" : Str), ("read_form" : Str), ("check_form" : Str), ("form_of" : Str), ("form_in_text" : Str), ("number_in_text" : Str), ("_term_in_text" : Str), ("_terms_of" : Str), ("_symbols_of" : Str), ("_sum_of" : Str), ("_multiple_of" : Str), ("_pieces_of" : Str), ("MAX_PARTS" : Str), ("MAX_DEPTH" : Str), ("MAX_IFS" : Str), ("Condition" : Str), ("Not" : Str), ("All" : Str), ("Any" : Str), ("check_condition" : Str), ("_listed" : Str), ("_checked_conditions" : Str), ("_joined" : Str), ("Statement" : Str), ("Let" : Str), ("Copy" : Str), ("Up" : Str), ("Down" : Str), ("Apart" : Str), ("Reverse" : Str), ("Swap" : Str), ("Fill" : Str), ("Resize" : Str), ("If" : Str), ("size_of" : Str), ("moves_of" : Str), ("ifs_of" : Str), ("_check_branch" : Str), ("_lines_of_if" : Str), ("indented" : Str), ("_at" : Str), ("_law_cell" : Str), ("_law_purse" : Str), ("_law_take" : Str), ("_law_name" : Str), ("_law_other_name" : Str), ("_law_names" : Str), ("_law_total" : Str), ("_law_say" : Str), ("_law_form" : Str), ("_law_small" : Str), ("_law_by_place" : Str), ("_law_by_name" : Str), ("_law_due" : Str), ("_law_sorts" : Str), ("_law_arguments" : Str), ("_law_arguments_due" : Str), ("_law_one_right" : Str), ("_law_unlike" : Str), ("_law_right" : Str)]
abbrev RW : PySem.W.OpenRow := PySem.W.OpenLaw.row PySem.Challenge.rw_blockmoves_k19_statements_made
def asW : List Addr := cStatics :: [3, 6, 4, 21, 31, 51, 70, 89, 108, 127, 146, 165, 184, 203, 215, 235, 244, 249, 256, 263, 268, 275, 282, 372, 383, 390, 397, 404, 411, 418, 423, 428, 435, 440, 447, 518, 555, 588, 621, 630, 635, 642, 647, 685, 722, 764, 792, 820, 848, 883, 918, 953, 988, 1009, 1016, 1021, 1026, 1033, 1040, 1045, 1052, 1059, 1066, 1073, 1080, 1085, 1090, 1095, 1102, 1109, 1114, 1121, 1128, 1133, 1140, 1147, 1154, 1159, 1164, 1169, 1174, 0, 20, 30, 50, 69, 88, 107, 126, 145, 164, 183, 202, 214, 234, 243, 248, 255, 262, 267, 274, 281, 371, 382, 389, 396, 403, 410, 417, 422, 427, 434, 439, 446, 517, 554, 587, 620, 629, 634, 641, 646, 684, 721, 763, 791, 819, 847, 882, 917, 952, 987, 1008, 1015, 1020, 1025, 1032, 1039, 1044, 1051, 1058, 1065, 1072, 1079, 1084, 1089, 1094, 1101, 1108, 1113, 1120, 1127, 1132, 1139, 1146, 1153, 1158, 1163, 1168, 1173, 15, 16, 17, 18, 19, 29, 32, 48, 49, 67, 68, 86, 87, 105, 106, 124, 125, 143, 144, 162, 163, 181, 182, 200, 201, 213, 216, 232, 233, 238, 239, 240, 241, 242, 245, 246, 247, 250, 251, 252, 253, 254, 257, 258, 259, 260, 261, 264, 265, 266, 269, 270, 271, 272, 273, 276, 277, 278, 279, 280, 296, 305, 313, 320, 327, 334, 341, 348, 355, 362, 369, 370, 373, 374, 377, 378, 379, 380, 381, 384, 385, 386, 387, 388, 391, 392, 393, 394, 395, 398, 399, 400, 401, 402, 405, 406, 407, 408, 409, 412, 413, 414, 415, 416, 419, 420, 421, 424, 425, 426, 429, 430, 431, 432, 433, 436, 437, 438, 441, 442, 443, 444, 445, 459, 466, 473, 480, 487, 494, 501, 508, 515, 516, 519, 520, 538, 545, 552, 553, 573, 578, 585, 586, 606, 611, 618, 619, 624, 625, 626, 627, 628, 631, 632, 633, 636, 637, 638, 639, 640, 643, 644, 645, 661, 668, 675, 682, 683, 686, 687, 705, 712, 719, 720, 740, 747, 754, 761, 762, 782, 789, 790, 810, 817, 818, 838, 845, 846, 866, 873, 880, 881, 901, 908, 915, 916, 936, 943, 950, 951, 971, 978, 985, 986, 1006, 1007, 1012, 1013, 1014, 1017, 1018, 1019, 1022, 1023, 1024, 1027, 1028, 1029, 1030, 1031, 1034, 1035, 1036, 1037, 1038, 1041, 1042, 1043, 1046, 1047, 1048, 1049, 1050, 1053, 1054, 1055, 1056, 1057, 1060, 1061, 1062, 1063, 1064, 1067, 1068, 1069, 1070, 1071, 1074, 1075, 1076, 1077, 1078, 1081, 1082, 1083, 1086, 1087, 1088, 1091, 1092, 1093, 1096, 1097, 1098, 1099, 1100, 1103, 1104, 1105, 1106, 1107, 1110, 1111, 1112, 1115, 1116, 1117, 1118, 1119, 1122, 1123, 1124, 1125, 1126, 1129, 1130, 1131, 1134, 1135, 1136, 1137, 1138, 1141, 1142, 1143, 1144, 1145, 1148, 1149, 1150, 1151, 1152, 1155, 1156, 1157, 1160, 1161, 1162, 1165, 1166, 1167, 1170, 1171, 1172, 47, 66, 85, 104, 123, 142, 161, 180, 199, 231, 295, 303, 304, 312, 319, 326, 333, 340, 347, 354, 361, 368, 458, 465, 472, 479, 486, 493, 500, 507, 514, 537, 526, 544, 551, 572, 561, 577, 584, 605, 594, 610, 617, 660, 667, 674, 681, 704, 693, 711, 718, 739, 728, 746, 753, 760, 781, 770, 788, 809, 798, 816, 837, 826, 844, 865, 854, 872, 879, 900, 889, 907, 914, 935, 924, 942, 949, 970, 959, 977, 984, 1005, 1000, 994, 42, 43, 44, 45, 46, 61, 62, 63, 64, 65, 80, 81, 82, 83, 84, 99, 100, 101, 102, 103, 118, 119, 120, 121, 122, 137, 138, 139, 140, 141, 156, 157, 158, 159, 160, 175, 176, 177, 178, 179, 194, 195, 196, 197, 198, 226, 227, 228, 229, 230, 290, 291, 292, 293, 294, 302, 306, 307, 308, 309, 310, 311, 314, 315, 316, 317, 318, 321, 322, 323, 324, 325, 328, 329, 330, 331, 332, 335, 336, 337, 338, 339, 342, 343, 344, 345, 346, 349, 350, 351, 352, 353, 356, 357, 358, 359, 360, 363, 364, 365, 366, 367, 455, 456, 457, 460, 461, 462, 463, 464, 467, 468, 469, 470, 471, 474, 475, 476, 477, 478, 481, 482, 483, 484, 485, 488, 489, 490, 491, 492, 495, 496, 497, 498, 499, 502, 503, 504, 505, 506, 509, 510, 511, 512, 513, 532, 533, 534, 535, 536, 539, 540, 541, 542, 543, 546, 547, 548, 549, 550, 567, 568, 569, 570, 571, 574, 575, 576, 579, 580, 581, 582, 583, 600, 601, 602, 603, 604, 607, 608, 609, 612, 613, 614, 615, 616, 655, 656, 657, 658, 659, 662, 663, 664, 665, 666, 669, 670, 671, 672, 673, 676, 677, 678, 679, 680, 699, 700, 701, 702, 703, 706, 707, 708, 709, 710, 713, 714, 715, 716, 717, 734, 735, 736, 737, 738, 741, 742, 743, 744, 745, 748, 749, 750, 751, 752, 755, 756, 757, 758, 759, 776, 777, 778, 779, 780, 783, 784, 785, 786, 787, 804, 805, 806, 807, 808, 811, 812, 813, 814, 815, 832, 833, 834, 835, 836, 839, 840, 841, 842, 843, 860, 861, 862, 863, 864, 867, 868, 869, 870, 871, 874, 875, 876, 877, 878, 895, 896, 897, 898, 899, 902, 903, 904, 905, 906, 909, 910, 911, 912, 913, 930, 931, 932, 933, 934, 937, 938, 939, 940, 941, 944, 945, 946, 947, 948, 965, 966, 967, 968, 969, 972, 973, 974, 975, 976, 979, 980, 981, 982, 983, 1002, 1003, 1004, 999, 297, 298, 299, 300, 301]
abbrev hkW : PySem.W.Hook := hookC fileW asW fsW fnW fcW
def obR (s : PySem.W.SharedT) : AlW := obsCG fileW asW fsW fnW fcW (HandSHeadRun.getT s)
theorem obR_eq (s : PySem.W.SharedT) : obR s = hkW.obs s.abs := obsCG_eq (HandSHeadRun.getT_eq s)
end Lw

/-! ## StS -/
set_option maxHeartbeats 0
namespace Lw
open PySem PySem.Spec PyProof.Rows L2
noncomputable abbrev runO (w : World) (os : OsState) : Option PySem.W.SharedT := HandSHeadRun.endF (HandSHeadRun.stepQ (HandSHeadRun.denQ HandSHeadRun.tabQ) RW.prog w) 16000 RW.prog w os
abbrev qW : Program := PySem.W.view RW.prog [89]
open PySem.W PySem.Calls in
theorem run1 (w : World) (os : OsState) : (runO w os).map (fun s => (HandSHeadRun.looksF RW.prog (boot_heap w.params) s.abs, HandSHeadRun.seenQ qW looseW (importedModules RW.prog.main.body) (fun s => PySem.W.xlAt qW [] s && PySem.W.recOk RW.toRowW.records s) s.abs)) = some (true, PySem.W.openGood qW looseW) := by kernel_rfl
theorem run2 (w : World) (os : OsState) : (runO w os).map (fun s => obR s) = some (hkW.val w) := by kernel_rfl
theorem runW (w : World) : HandSHeadRun.RunEq RW qW hkW obR 16000 looseW w := fun os => map_three (run1 w os) (run2 w os)
end Lw
open PySem PySem.W PySem.Calls PyProof.Rows
theorem PySem.Challenge.cw_blockmoves_k19_statements_made_holds : PySem.Challenge.rw_blockmoves_k19_statements_made.Holds := by
  w_on; o_law
  refine HandSHeadRun.head_any (r := OpenLaw.row PySem.Challenge.rw_blockmoves_k19_statements_made) (q := view (OpenLaw.row PySem.Challenge.rw_blockmoves_k19_statements_made).prog [89]) (H := Lw.hkW) (ob := Lw.obR) (M := 16000) (loose := Lw.looseW) (d := HandSHeadRun.topDef (OpenLaw.row PySem.Challenge.rw_blockmoves_k19_statements_made).prog 89) (kwd := []) Lw.obR_eq
    (by kernel_rfl) (fun s => by kernel_rfl) Lw.runW (by kernel_rfl) (by kernel_rfl) (by kernel_rfl) (by rfl) (by first | assumption | decide +kernel) (by decide +kernel) ⟨rfl, rfl, rfl, rfl, rfl, by decide +kernel⟩ ?hw ?hc
  case hw => w_witness2
  case hc =>
    refine Lw.walk_look (l := PySem.Challenge.rw_blockmoves_k19_statements_made) (n := 63) (k := 15) (x := "_law_script") (sp := Lw.spLaw) rfl (by decide) (by kernel_rfl) ⟨⟨rfl, by decide, by decide⟩, rfl⟩ ?F (fun K H a ns hl _ hS => ⟨a, ns, rfl, hS, hl, fun _ => rfl⟩)
    intro w mg fa h Y G hmg0
    obtain ⟨K, KX, c⟩ := Y
    have hmg : mg ("law" : PySem.Str) = some (.ref fa) := by
      have e : (HandSHeadRun.topDef (OpenLaw.row PySem.Challenge.rw_blockmoves_k19_statements_made).prog 89).name = ("law" : PySem.Str) := by kernel_rfl
      rw [← e]
      exact hmg0
    obtain ⟨fd, F0⟩ := c.a.def_ 33
    have F := Lw.Fun.ofD (st := Lw.s_law) F0
    have e := hmg.symm.trans (He.glo_ok KX G (c.a.fact 90))
    cases e
    exact ⟨K, fd, KX, fun u => Lw.Fun.bound (p := fun fd => bindArgs fd ⟨[u], []⟩ = (pure [("_law_script", u)] : Sem (List (Str × Value)))) F fun _ _ _ _ _ _ => rfl, fun base hm hG => Lw.end_mk hm hG KX G c (by kernel_rfl) (by kernel_rfl) hmg F⟩
