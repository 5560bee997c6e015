import PyProof.Rows.All
import Wide.All
import OpenK.AllK
import Wide.FinOn
import HandS.ExcOwn
import HandS.EndTab
import HandS.ForMost
import HandS.GenList
import HandS.AnyAll
import PyProof.CollectWalk
import PyProof.TupleOfGen
import HandS.Base
import HandS.Call
import HandS.List
import HandS.TupAny
import HandS.TupMul
import HandS.Conv
import HandS.Wide
import HandS.IsInst
import HandS.DeepEq
import HandS.TupLe
import HandS.SortRule
import HandS.SortInts
import HandS.Style
import HandS.WordsExc
import HandS.TryOnly
import HandS.Iter
import KE.GoesEnum
import KE.KRevSl
import HandS.EndOwn
import KE.KNestM
import KE.DatumOrd
import HandS.More
import PyProof.ReprRoads
import PyProof.ReprLen
import PyProof.P3In
import HandS.Small
import HandS.Deep
import KE.KDictList
import KE.KDictSum
import KE.KDictWalk
import HandS.Sort
import HandS.Zip
import KE.KTupSum
import HandS.SetKeys
import KE.KDictZip
import PyProof.ListNew
import KE.DataFind
import HandS.ForList
import PySem.Challenge.RW_allasked_k15_the_first_web_unlike
set_option Elab.async false
set_option linter.all false
set_option maxRecDepth 100000
set_option maxHeartbeats 4000000
/-! own defs, called where nothing is being shown (repr looks at what is under way) -/
namespace Gr
open PySem PySem.Spec PyProof.Rows L2
/-- room, and no repr under way -/
structure RoomG (k : Nat) (A : Around) : Prop extends Room k A where
  gd : A.guards = some []
theorem RoomG.less {i k : Nat} {A : Around} (r : RoomG k A) (h : i ≤ k) : RoomG i A := ⟨r.toRoom.mono h, r.gd⟩
theorem RoomG.step {k : Nat} {A : Around} (r : RoomG (k + 1) A) (en : Env) : RoomG k (A.deeper en) := ⟨r.toRoom.deeper en, r.gd⟩
structure FnG (P : Program) (w : World) (K : PySem.W.Frag) (mg : Str → Option Value) (base : Heap) (CX : CXT) (k : Nat) (f : Addr) (fd : FuncData) (ps : List Str) (sp : Sp) : Prop where
  len : ∀ xs H Q W, sp xs H Q W → xs.length = ps.length
  run : ∀ (A : Around) (out : List Env) (t : Shared) (H : Hp) (as : Args) (us : List Value) (xs : List V) (Q : VK) (W : XK), RoomG k A → Env0 P w K mg base A out t H → BindsTo t fd as (ps.zip us) → Vals xs us → sp xs H Q W →
    codeAny (model P w) A (.call (.ref f) as) (CR CX out P w H t Q W) t
theorem FnG.of {P : Program} {w : World} {K : PySem.W.Frag} {mg : Str → Option Value} {base : Heap} {CX : CXT} {k : Nat} {f : Addr} {fd : FuncData} {ps : List Str} {sp : Sp} (F : FnOk P w K mg base CX k f fd ps sp) : FnG P w K mg base CX k f fd ps sp :=
  ⟨F.len, fun A out t H as us xs Q W hr => F.run A out t H as us xs Q W hr.toRoom⟩
section
variable {X : Cx} {CX : CXT} {k : Nat} {f : Addr} {fd : FuncData} {ps : List Str} {sp : Sp} {E : L2.St → XK} {x : Str} {p pos : Pos} {e : Expr} {es : List Expr} {ta : TA}
theorem run_G {pins : List (Addr × Obj)} {σ : L2.St} {H : Hp} {t : Shared} {Q : VK} {us : List Value} {xs : List V} (G : FnG X.prog X.w X.K X.mg X.base CX k f fd ps sp) (rm : RoomG k X.A) (bd : Binds X.K fd ps []) (pa : PassesAt CX X σ (E σ))
    (I : Inv X pins σ H t) (rv : Vals xs us) (q : sp xs H Q (E σ)) : wpAny (model X.prog X.w) X.A (call (.ref f) us) (EP X pins σ Q) X.xe t := by
  have n2 : us.length = ps.length := rv.length.symm.trans (G.len _ _ _ _ q)
  have b := bd t us I.kIn (by simpa using n2)
  have b2 : BindsTo t fd ⟨us, []⟩ (ps.zip us) := by simpa using b
  apply wpAny_call
  apply codeAny_mono (G.run X.A X.stack t H ⟨us, []⟩ us xs Q (E σ) rm I.env0 b2 rv q)
  intro r t' z
  match r, z with
  | .error er, z => exact pa pins H t er t' I z
  | .ok (.ret _), z => exact I.after z
  | .ok .next, z => exact z.elim
  | .ok .brk, z => exact z.elim
  | .ok .cont, z => exact z.elim
theorem pe_callG (G : FnG X.prog X.w X.K X.mg X.base CX k f fd ps sp) (rm : RoomG k X.A) (gl : Gl X x) (gm : X.mg x = some (.ref f)) (gk : PySem.W.keepIn X.K (.ref f) = true) (bd : Binds X.K fd ps []) (pa : ∀ σ, PassesAt CX X σ (E σ))
    (ha : PA X (e :: es) ta) (db : (x == ("__debug__" : Str)) = false) (st : starEach (e :: es) X.env = (false, eval e X.env) :: starEach es X.env) (pl : (backTo pos (starEach es X.env)).any (·.1) = false) :
    PE X (.Call (.Name x p) (e :: es) [] pos) (tCallS sp E ta) := by
  constructor
  intro pins t σ H Q I hq
  apply wpAny_Call_Name_kw
  apply ld_glob I gl gm _ db
  exact PySem.W.callWith_K (h₀ := X.base) I.ok.mod.kin gk (thn (ha.run pos pins t σ H _ I hq) fun us t1 ⟨xs, H1, I1, rv, z⟩ => ⟨I1.kIn, run_G G rm bd (pa σ) I1 rv z⟩) st pl
end
/-- a def by its body -/
theorem fn_ofG {CX : CXT} {P : Program} {w : World} {K : PySem.W.Frag} {mg : Str → Option Value} {base : Heap} {k : Nat} {f : Addr} {name qual : Str} {params : Arguments} {body : List Stmt} {scope : Scope} {dV kV doc pm cdv ct oc : Value} {an od : Option Addr}
    {N ps : List Str} {osl : Array (Option Value)} {sp : Sp} (lk : K.lookup f = some ⟨oc, od, .func (PySem.W.fnOf name qual params body scope dV kV doc pm an cdv ct), osl⟩) (hcd : PySem.W.codeIn K cdv qual = true) (S : FnScope N ps scope)
    (len : ∀ xs H Q W, sp xs H Q W → xs.length = ps.length)
    (bdy : ∀ (A : Around) (out : List Env) (t : Shared) (H : Hp) (xs : List V) (Q : VK) (W : XK), RoomG k (A.deeper (envOfC qual scope t.heap.objs.size f cdv)) → sp xs H Q W →
      ∃ m, PSs (cxOf CX P w K mg base N qual scope f cdv A out t H W) body m ∧ m { nx := fun _ H' => Q .non H', rt := Q } (start N xs) H) :
    FnG P w K mg base CX (k + 1) f (PySem.W.fnOf name qual params body scope dV kV doc pm an cdv ct) ps sp := by
  constructor
  · exact len
  intro A out t H as us xs Q W rm en bt rv hs
  have old : ∀ b o, base.get? b = some o → t.heap.get? b = some o := fun b o z => (en.bs b o z).1
  have KI : K.In t.heap := en.mod.kin.keeps old
  have NL : t.heap.NoLimit := en.mod.nolimit.keeps old
  have kd : ∀ y ∈ ps.zip us, scope.names.lookup y.1 = some .local ∨ (scope.names.lookup y.1 = some .cell ∧ ((cellsFrom (t.heap.objs.size + 1) scope.names []).lookup y.1).isSome = true) := by
    rintro ⟨nm, u⟩ hy
    cases S.par nm (List.of_mem_zip hy).1 with
    | inl z => exact .inl z
    | inr z => exact .inr ⟨z, PySem.W.cellsFrom_some _ _ _ (.inl z)⟩
  apply codeAny_call_function rm.depth (KI _ _ lk) rfl S.co S.gen rfl (PySem.W.codeRec_of KI hcd)
  apply bt
  apply wpAny_newFunctionEnv_cells S.kind kd
  rintro env rfl t1 x
  refine ⟨NL.keeps x.toInCall.keep, codeAny_func ?_⟩
  obtain ⟨m, hm, hq⟩ := bdy A out t H xs Q W (rm.step _) hs
  have J : Inv (cxOf CX P w K mg base N qual scope f cdv A out t H W) [] (start N xs) H t1 := inv_start S rm.hd en (len _ _ _ _ hs) rv x
  apply wpAny_mono (hm.run [] t1 (start N xs) H _ J hq)
  · intro fl t' z
    match fl, z with
    | .ret u, ⟨v, σ', H', J', rv', q'⟩ => exact ⟨v, H', J'.os, J'.bare, J'.base, J'.hok, rv', q'⟩
    | .next, ⟨σ', H', J', q'⟩ => exact ⟨V.non, H', J'.os, J'.bare, J'.base, J'.hok, rfl, q'⟩
    | .brk, ⟨_, _, _, q'⟩ => exact q'.elim
    | .cont, ⟨_, _, _, q'⟩ => exact q'.elim
  · exact fun _ _ z => z
end Gr

namespace Gr
open PySem PySem.Spec PyProof.Rows L2 LamX
section
variable {P : Program} {w : World} {K : PySem.W.Frag} {mg mb : Str → Option Value} {CX : CXT} {k : Nat} {fa sa : Addr} {tb : List (Addr × Addr)} {fd : FuncData} {x : Str} {sp : Sp} {t0 : Shared} {us : List Value} {ns : List Int}
/-- what is known of the state ahead of the law -/
structure Ahead (K : PySem.W.Frag) (mg mb : Str → Option Value) (tb : List (Addr × Addr)) (sa : Addr) (us : List Value) (t0 : Shared) : Prop where
  kin : K.In t0.heap
  main : t0.heap.Ns mainGlobals mg
  bns : t0.heap.Ns builtinsNs mb
  boot : ∀ y : Str, y ≠ "__name__" → mb y = bootBuiltins y
  lim : t0.heap.NoLimit
  gens : t0.gens = #[]
  tabs : ∀ p ∈ tb, t0.heap.get? p.2 = some { cls := .none, data := .fields #[] }
  ntab : ∀ p ∈ tb, K.lookup p.2 = none
  heads : ∀ p ∈ tb, PySem.W.CodeHd t0.heap p.1 p.2
  bmod : ∃ (m : Addr) (om : Obj), mg "__builtins__" = some (.ref m) ∧ m ≠ builtinsNs ∧ t0.heap.get? m = some om ∧ om.cls = .type "module" ∧ om.dict = some builtinsNs ∧ om.data = .plain
  scr : t0.heap.get? sa = some { cls := .type "list", data := .seq us.toArray }
/-- an abstract heap of nothing but the script and the tables -/
structure Bare (P : Program) (w : World) (K : PySem.W.Frag) (tb : List (Addr × Addr)) (sa : Addr) (t0 : Shared) (H : Hp) : Prop where
  tab : ∀ p ∈ tb, H p.2 = some (.tbl #[])
  only : ∀ b u, H b = some u → (∃ p ∈ tb, p.2 = b) ∨ (b = sa ∧ K.lookup sa = none ∧ ∃ o ys, u = .frz o (.lst ys))
  ok : HOk P w H t0.heap
theorem Bare.free {H : Hp} (h : Ahead K mg mb tb sa us t0) (hb : Bare P w K tb sa t0 H) {b : Addr} {o : Obj} (e : t0.heap.get? b = some o) (n1 : ∀ ys n, o.data ≠ .seq ys n) (n2 : o.data ≠ .fields #[]) : H b = none := by
  match q : H b with
  | none => rfl
  | some u =>
    rcases hb.only b u q with ⟨p, hp, rfl⟩ | ⟨rfl, _⟩
    · have z := (h.tabs p hp).symm.trans e
      cases z
      exact absurd rfl n2
    · have z := h.scr.symm.trans e
      cases z
      exact absurd rfl (n1 _ _)
theorem Bare.keep {H : Hp} (h : Ahead K mg mb tb sa us t0) (hb : Bare P w K tb sa t0 H) {b : Addr} {m : Str → Option Value} (e : t0.heap.Ns b m) : (hidT t0.heap H).Ns b m := by
  obtain ⟨o, es, ep, e1, e2, e3⟩ := e
  refine ⟨o, es, ep, hidT_get e1 (hb.free h e1 ?_ ?_), e2, e3⟩ <;> simp [e2]
theorem Bare.kin {H : Hp} (h : Ahead K mg mb tb sa us t0) (hb : Bare P w K tb sa t0 H) : K.In (hidT t0.heap H) := by
  intro b o e
  apply hidT_get (h.kin b o e)
  match q : H b with
  | none => rfl
  | some u =>
    rcases hb.only b u q with ⟨p, hp, rfl⟩ | ⟨rfl, z, _⟩
    · rw [h.ntab p hp] at e; cases e
    · rw [z] at e; cases e
theorem Bare.mod {H : Hp} (h : Ahead K mg mb tb sa us t0) (hb : Bare P w K tb sa t0 H) : L2.Mod K mg (hidT t0.heap H) := by
  obtain ⟨ml, l1, l2⟩ := h.lim
  exact ⟨hb.kin h, hb.keep h h.main, ⟨mb, hb.keep h h.bns, h.boot⟩, ⟨ml, hb.keep h l1, l2⟩⟩
theorem Bare.tabB {H : Hp} (h : Ahead K mg mb tb sa us t0) (hb : Bare P w K tb sa t0 H) {p : Addr × Addr} (hp : p ∈ tb) : TabB (hidT t0.heap H) mg p.1 p.2 := by
  have ht := h.tabs p hp
  have nm : ∀ q : Addr, (∃ o es ep, t0.heap.get? q = some o ∧ o.data = .dict es ep) → q ≠ p.2 := by
    rintro q ⟨o, es, ep, e1, e2⟩ rfl
    rw [ht] at e1
    cases e1
    cases e2
  constructor
  · obtain ⟨o, vs, f1, f2, f3, f4, f5, f6, f7, e1, r1, r2, r3, r4⟩ := h.heads p hp
    refine ⟨o, vs, f1, f2, f3, f4, f5, f6, f7, hidT_get e1 (hb.free h e1 ?_ ?_), r1, r2, r3, r4⟩
    · intro ys n; rw [r2]; simp
    · rw [r2]
      intro z
      cases z
      simp at r3
  · obtain ⟨m, om, b1, b2, b3, b4, b5, b6⟩ := h.bmod
    refine ⟨m, om, b1, b2, ?_, ?_, hidT_get b3 (hb.free h b3 ?_ ?_), b4, b5, b6⟩
    · rintro rfl
      obtain ⟨o, es, ep, e1, e2, _⟩ := h.main
      rw [b3] at e1
      cases e1
      rw [b6] at e2
      cases e2
    · rintro rfl
      rw [ht] at b3
      cases b3
      cases b6
    · intro ys n; rw [b6]; simp
    · rw [b6]; simp
  · obtain ⟨o, es, ep, e1, e2, _⟩ := h.main
    exact nm mainGlobals ⟨o, es, ep, e1, e2⟩
/-- what comes of the law's call -/
def Told (t0 : Shared) (r : Result) (t : Shared) : Prop := r = .ok (.ret (.bool true)) ∧ OldK t0.heap t.heap ∧ t.os = t0.os ∧ AllBare t.gens
theorem Bare.told {H : Hp} (h : Ahead K mg mb tb sa us t0) (hb : Bare P w K tb sa t0 H) (rm : RoomG k callerA)
    (F : ∀ base : Heap, K.In base → base.Ns mainGlobals mg → (∀ p ∈ tb, TabB base mg p.1 p.2) → FnG P w K mg base CX k fa fd [x] sp) (bd : ∀ (t : Shared) (u : Value), BindsTo t fd ⟨[u], []⟩ [(x, u)])
    (q : sp [.ref sa] H (fun v _ => v = .bl true) fun _ _ _ => False) (nx : ∀ H e t, CX [] H t0 (fun _ _ _ => False) e t → False) :
    codeAny (model P w) callerA (.call (.ref fa) ⟨[.ref sa], []⟩) (Told t0) t0 := by
  have en : Env0 P w K mg (hidT t0.heap H) callerA [] t0 H :=
    { frames := rfl, mod := hb.mod h, bs := fun _ _ z => of_hidT z, bsz := Nat.le_of_eq (hidT_size _ _), funs := trivial, frf := (fun b z => by cases z), hok := hb.ok, bare := .of_eq h.gens }
  have go := (F _ (hb.kin h) (hb.keep h h.main) fun p hp => hb.tabB h hp).run callerA [] t0 H ⟨[.ref sa], []⟩ [.ref sa] [.ref sa] _ _ rm en (bd t0 (.ref sa)) (.cons rfl .nil) q
  apply codeAny_mono go
  intro r t z
  match r, z with
  | .error e, z => exact (nx H e t z).elim
  | .ok .next, z => exact z.elim
  | .ok .brk, z => exact z.elim
  | .ok .cont, z => exact z.elim
  | .ok (.ret u), ⟨v, H', z1, z2, un, ok', rv, qv⟩ =>
    have qv : v = .bl true := qv
    subst qv
    cases (show u = Value.bool true from rv)
    have same : ∀ b o, (∀ p ∈ tb, p.2 ≠ b) → t0.heap.get? b = some o → t.heap.get? b = some o := by
      intro b o nt e
      match q : H b with
      | none => exact un.keep b o e q (fun z => by cases z) (by simp)
      | some u =>
        rcases hb.only b u q with ⟨p, hp, e1⟩ | ⟨_, _, ob, ys, rfl⟩
        · exact absurd e1 (nt p hp)
        · obtain ⟨g1, _⟩ := hb.ok b _ q
          obtain ⟨g2, _⟩ := ok' b _ (un.frzs b ob _ q)
          rw [g1] at e
          cases e
          exact g2
    have more : ∀ p ∈ tb, ∃ ar : Array Value, t.heap.get? p.2 = some { cls := .none, data := .fields ar } := by
      intro p hp
      obtain ⟨ar, z⟩ := un.tbls p.2 #[] (hb.tab p hp)
      exact ⟨_, ok' p.2 _ z⟩
    have two : ∀ b, (∃ p ∈ tb, p.2 = b) ∨ ∀ p ∈ tb, p.2 ≠ b := fun b => by
      by_cases z : ∃ p ∈ tb, p.2 = b
      · exact .inl z
      · exact .inr fun p hp e => z ⟨p, hp, e⟩
    refine ⟨rfl, ⟨?_, ?_⟩, z1, z2⟩
    · intro b o e
      rcases two b with ⟨p, hp, rfl⟩ | nt
      · obtain ⟨ar, ha⟩ := more p hp
        have e2 := (h.tabs p hp).symm.trans e
        cases e2
        exact .inr (.inl ⟨((h.heads p hp).tab (h.tabs p hp)).isCodeTable, rfl, #[], ar, rfl, by simpa using ha⟩)
      · exact .inl (same b o nt e)
    · intro b o e
      rcases two b with ⟨p, hp, rfl⟩ | nt
      · obtain ⟨ar, ha⟩ := more p hp
        exact ⟨_, ha⟩
      · exact ⟨o, same b o nt e⟩
open Classical in
theorem law_callG (h : Ahead K mg mb tb sa us t0) (hi : IntsAre us ns) (hl : ns.length ≤ sizeLine) (rm : RoomG k callerA)
    (F : ∀ base : Heap, K.In base → base.Ns mainGlobals mg → (∀ p ∈ tb, TabB base mg p.1 p.2) → FnG P w K mg base CX k fa fd [x] sp) (bd : ∀ (t : Shared) (u : Value), BindsTo t fd ⟨[u], []⟩ [(x, u)])
    (q : ∀ H : Hp, (∀ p ∈ tb, H p.2 = some (.tbl #[])) → SqL K H sa (ns.map V.int) → sp [.ref sa] H (fun v _ => v = .bl true) fun _ _ _ => False) (nx : ∀ H e t, CX [] H t0 (fun _ _ _ => False) e t → False) :
    codeAny (model P w) callerA (.call (.ref fa) ⟨[.ref sa], []⟩) (Told t0) t0 := by
  have rv := vals_ints hi
  have ns1 : ¬ ∃ p ∈ tb, p.2 = sa := by
    rintro ⟨p, hp, rfl⟩
    have z := (h.tabs p hp).symm.trans h.scr
    cases z
  match hk : K.lookup sa with
  | some o =>
    have e := h.scr.symm.trans (h.kin sa o hk)
    cases e
    let H : Hp := fun b => if ∃ p ∈ tb, p.2 = b then some (.tbl #[]) else none
    have hH : ∀ p ∈ tb, H p.2 = some (.tbl #[]) := fun p hp => if_pos ⟨p, hp, rfl⟩
    have cs : ∀ b u, H b = some u → (∃ p ∈ tb, p.2 = b) ∧ u = .tbl #[] := fun b u z => by
      by_cases c : ∃ p ∈ tb, p.2 = b
      · rw [show H b = some (.tbl #[]) from if_pos c] at z
        cases z
        exact ⟨c, rfl⟩
      · rw [show H b = none from if_neg c] at z
        cases z
    have hb : Bare P w K tb sa t0 H := by
      refine ⟨hH, fun b u z => .inl (cs b u z).1, fun b u z => ?_⟩
      obtain ⟨⟨p, hp, rfl⟩, rfl⟩ := cs b u z
      exact h.tabs p hp
    refine hb.told h rm F bd (q H hH (.inr ⟨_, us.toArray, _, hk, rfl, rfl, rfl, ?_, by simpa using rv⟩)) nx
    exact (show us.toArray.size ≤ sizeLine by simpa [hi.length] using hl)
  | none =>
    let H : Hp := fun b => if b = sa then some (.frz { cls := .type "list", data := .seq us.toArray } (.lst (ns.map V.int))) else if ∃ p ∈ tb, p.2 = b then some (.tbl #[]) else none
    have hS : H sa = some (.frz { cls := .type "list", data := .seq us.toArray } (.lst (ns.map V.int))) := if_pos rfl
    have hH : ∀ p ∈ tb, H p.2 = some (.tbl #[]) := fun p hp => (if_neg fun z => ns1 ⟨p, hp, z⟩).trans (if_pos ⟨p, hp, rfl⟩)
    have cs : ∀ b u, H b = some u → ((∃ p ∈ tb, p.2 = b) ∧ u = .tbl #[]) ∨ (b = sa ∧ u = .frz { cls := .type "list", data := .seq us.toArray } (.lst (ns.map V.int))) := fun b u z => by
      by_cases c0 : b = sa
      · subst c0
        rw [hS] at z
        cases z
        exact .inr ⟨rfl, rfl⟩
      by_cases c : ∃ p ∈ tb, p.2 = b
      · rw [show H b = some (.tbl #[]) from (if_neg c0).trans (if_pos c)] at z
        cases z
        exact .inl ⟨c, rfl⟩
      · rw [show H b = none from (if_neg c0).trans (if_neg c)] at z
        cases z
    have hb : Bare P w K tb sa t0 H := by
      refine ⟨hH, fun b u z => ?_, fun b u z => ?_⟩
      · rcases cs b u z with ⟨c, _⟩ | ⟨c, rfl⟩
        · exact .inl c
        · exact .inr ⟨c, hk, _, _, rfl⟩
      · rcases cs b u z with ⟨⟨p, hp, rfl⟩, rfl⟩ | ⟨rfl, rfl⟩
        · exact h.tabs p hp
        · exact ⟨h.scr, by rw [List.length_map]; exact hl, us, _, rv, h.scr⟩
    exact hb.told h rm F bd (q H hH (.inl (.inr ⟨_, hS⟩))) nx
end
end Gr

namespace Gx
open PySem PySem.Spec PyProof.Rows L2 GenW

/-- old objects are kept, the rest of the world too -/
structure Quiet (s s' : Shared) : Prop where
  os : s'.os = s.os
  bare : AllBare s'.gens
  keep : ∀ b o, s.heap.get? b = some o → s'.heap.get? b = some o

/-- at a yield: v is a truth; where it is b the consumer stops at once, else it wakes the generator again -/
def YB (a : Addr) (g : Nat) (b : Bool) (Out : Shared → Prop) : Protocol := fun _ _ v s kap =>
  s.heap.NoLimit ∧ s.heap.IsGen a g ∧ AllBare s.gens ∧ ∃ c, v = Value.bool c ∧
    (c = b → Out s) ∧ (c = !b → ∀ s', Quiet s s' → kap (.send .none) s')

def RB (Last : Shared → Prop) : GenEnd := fun _ _ r s => (r = .ok (.ret .none) ∨ r = .ok .next) ∧ Last s

section
variable {P : Program} {w : World} {A : Around}
theorem next_b {E : Value → Shared → Prop} {s : Shared} {a : Addr} {g n : Nat} {b : Bool} {Out Last : Shared → Prop} {gs : GenState} {Q : Option Value → Shared → Prop}
    (hh : A.handled = none) (hl : s.heap.NoLimit) (hd : A.depth < recursionLimit) (hg : s.heap.IsGen a g) (hgs : s.gens[g]? = some gs)
    (hgo : gs.Goes (model P w) A.in1 (RB Last) (YB a g b Out) n (.send .none) (s.setGen g .running))
    (hY : ∀ v s1 gs', g < s1.gens.size → gs'.bare = true → YB a g b Out (n - 1) (s.setGen g .running) v s1 (fun r' s2 => match n with
        | 0 => False
        | m + 1 => gs'.Goes (model P w) A.in1 (RB Last) (YB a g b Out) m r' s2) → Q (some v) (s1.setGen g gs'))
    (hP : ∀ s1, Last s1 → ∀ h', (∀ b o, s1.heap.get? b = some o → h'.get? b = some o) → Q none { s1.setGen g .finished with heap := h' }) :
    wpAny (model P w) A (pyNext (.ref a)) Q E s := by
  have hgl : g < s.gens.size := (Array.getElem?_eq_some_iff.mp hgs).1
  have conv : ∀ {x : GenState} {B : Around} {m : Nat} {r : Resume} {t : Shared}, x.Goes (model P w) B (RB Last) (YB a g b Out) m r t →
      x.Goes (model P w) B (fun n s₀ r s₁ => ((r = .ok (.ret .none) ∨ r = .ok .next) ∧ Last s₁) ∨ ∃ e, r = .error e ∧ False) (YB a g b Out) m r t := by
    intro x B m r t h
    have h2 : ∀ n s₀ r s, RB Last n s₀ r s → (((r = .ok (.ret .none) ∨ r = .ok .next) ∧ Last s) ∨ ∃ e, r = .error e ∧ False) := fun _ _ _ _ q => .inl q
    have h3 : ∀ n s₀ v s (kap kap' : Resume → Shared → Prop), (∀ r s', kap r s' → kap' r s') → YB a g b Out n s₀ v s kap → YB a g b Out n s₀ v s kap' := by
      rintro n s₀ v s kap kap' hk ⟨q1, q2, q3, c, q4, q5, q6⟩
      exact ⟨q1, q2, q3, c, q4, q5, fun e s' z => hk _ _ (q6 e s' z)⟩
    cases x with
    | fresh c => exact ⟨h.1, seg_imp h2 h3 m h.2⟩
    | suspended k l c p fs cl => exact seg_imp h2 h3 m h
    | running => exact h.elim
    | finished => exact h.elim
  have back : ∀ {x : GenState} {B : Around} {m : Nat} {r : Resume} {t : Shared}, x.Goes (model P w) B (fun n s₀ r s₁ => ((r = .ok (.ret .none) ∨ r = .ok .next) ∧ Last s₁) ∨ ∃ e, r = .error e ∧ False) (YB a g b Out) m r t →
      x.Goes (model P w) B (RB Last) (YB a g b Out) m r t := by
    intro x B m r t h
    have h2 : ∀ n (s₀ : Shared) r s, (((r = .ok (.ret .none) ∨ r = .ok .next) ∧ Last s) ∨ ∃ e, r = .error e ∧ False) → RB Last n s₀ r s := fun _ _ _ _ q => by
      rcases q with q | ⟨_, _, z⟩
      · exact q
      · exact z.elim
    have h3 : ∀ n s₀ v s (kap kap' : Resume → Shared → Prop), (∀ r s', kap r s' → kap' r s') → YB a g b Out n s₀ v s kap → YB a g b Out n s₀ v s kap' := by
      rintro n s₀ v s kap kap' hk ⟨q1, q2, q3, c, q4, q5, q6⟩
      exact ⟨q1, q2, q3, c, q4, q5, fun e s' z => hk _ _ (q6 e s' z)⟩
    cases x with
    | fresh c => exact ⟨h.1, seg_imp h2 h3 m h.2⟩
    | suspended k l c p fs cl => exact seg_imp h2 h3 m h
    | running => exact h.elim
    | finished => exact h.elim
  refine wpAny_gsz (n := g + 1) hgl ?_
  refine next_genG (Er := fun _ _ => False) (F := fun _ _ s1 => Last s1) hh hl hd hg hgs (conv hgo) (fun v s1 gs' hb hv => ?_) (fun s1 hp h' hk => ?_) fun e s1 he => he.elim
  · intro hsz
    have hsz1 : g < s1.gens.size := by
      have q : (s1.setGen g gs').gens.size = s1.gens.size := setGen_size _ _ _
      have hsz' : g + 1 ≤ (s1.setGen g gs').gens.size := hsz
      omega
    refine hY v s1 gs' hsz1 hb ?_
    obtain ⟨q1, q2, q3, c, q4, q5, q6⟩ := hv
    refine ⟨q1, q2, q3, c, q4, q5, fun e s' z => ?_⟩
    have q7 := q6 e s' z
    cases n with
    | zero => exact q7
    | succ m => exact back q7
  · intro _
    exact hP s1 hp h' hk

theorem quiet_set {s : Shared} {g : Nat} {x : GenState} (hb : AllBare s.gens) (hx : x.bare = true) : Quiet s (s.setGen g x) :=
  ⟨rfl, allBare_setGen hb hx, fun _ _ e => e⟩

/-- any(..): the loop -/
theorem any_loop {R : Result → Shared → Prop} {a : Addr} {g : Nat} {Out Last : Shared → Prop} (hh : A.handled = none) (hd : A.depth < recursionLimit)
    (hO : ∀ s s', Out s → Quiet s s' → R (.ok (.ret (.bool true))) s') (hL : ∀ s s', Last s → s'.os = s.os → (∃ x, s'.gens = (s.setGen g x).gens ∧ x.bare = true) → (∀ b o, s.heap.get? b = some o → s'.heap.get? b = some o) → R (.ok (.ret (.bool false))) s') :
    ∀ (n : Nat) (s : Shared), s.heap.IsGen a g → s.heap.NoLimit →
      (∃ gs, s.gens[g]? = some gs ∧ gs.Goes (model P w) A.in1.in1 (RB Last) (YB a g true Out) n (.send .none) (s.setGen g .running)) →
      codeAny (model P w) A (.builtin "any.loop" ⟨[.ref a], []⟩) R s := by
  intro n
  induction n with
  | zero =>
    rintro s hg hl ⟨gs, hgs, hgo⟩
    refine codeAny_builtin F.entry_any_loop ?_
    rw [Around.under_plainId F.plain_any_loop _]
    show wpAny _ A.in1 (pyNext (.ref a) >>= _) _ _ s
    refine wpAny_bind (next_b (A := A.in1) hh hl hd hg hgs hgo (fun v s1 gs' hsz hb hv => ?_) (fun s1 hp h' hk => ?_))
    · obtain ⟨_, _, q3, c, rfl, q5, q6⟩ := hv
      refine wpAny_bind (wpAny_holding (wpAny_truthy_bool ?_))
      refine wpAny_bind (wpAny_letGo ?_)
      cases c with
      | false => exact (q6 rfl s1 ⟨rfl, q3, fun _ _ e => e⟩).elim
      | true =>
        simp only [if_true]
        exact wpAny_bind (wpAny_rule (wpAny_pure (hO _ _ (q5 rfl) (quiet_set q3 hb))))
    · refine wpAny_bind (wpAny_rule (wpAny_pure ?_))
      exact hL s1 _ hp rfl ⟨.finished, rfl, rfl⟩ hk
  | succ n ih =>
    rintro s hg hl ⟨gs, hgs, hgo⟩
    refine codeAny_builtin F.entry_any_loop ?_
    rw [Around.under_plainId F.plain_any_loop _]
    show wpAny _ A.in1 (pyNext (.ref a) >>= _) _ _ s
    refine wpAny_bind (next_b (A := A.in1) hh hl hd hg hgs hgo (fun v s1 gs' hsz hb hv => ?_) (fun s1 hp h' hk => ?_))
    · obtain ⟨q1, q2, q3, c, rfl, q5, q6⟩ := hv
      refine wpAny_bind (wpAny_holding (wpAny_truthy_bool ?_))
      refine wpAny_bind (wpAny_letGo ?_)
      cases c with
      | true =>
        simp only [if_true]
        exact wpAny_bind (wpAny_rule (wpAny_pure (hO _ _ (q5 rfl) (quiet_set q3 hb))))
      | false =>
        simp only [Bool.false_eq_true, if_false]
        refine wpAny_pure ⟨plainId_quiet F.plain_any_loop _, ih (s1.setGen g gs') q2 q1 ⟨gs', setGen_at hsz, ?_⟩⟩
        refine q6 rfl _ ⟨rfl, ?_, fun _ _ e => e⟩
        exact allBare_setGen (allBare_setGen q3 hb) rfl
    · refine wpAny_bind (wpAny_rule (wpAny_pure ?_))
      exact hL s1 _ hp rfl ⟨.finished, rfl, rfl⟩ hk
end
end Gx

namespace Gx
open PySem PySem.Spec PyProof.Rows L2 GenW

/-- the context of a generator expression's frame -/
abbrev gcx (X : Cx) (A : Around) (s : Shared) (H : Hp) (cenv : Env) (fp : List Addr) (pn : List (Addr × Obj)) : Cx :=
  { X with A := A.deeper cenv, s_0 := s, H_0 := H, env := cenv, outer := X.stack, stack := cenv :: X.stack, ex := fp, fn := fun _ => false, calm := true, pn := pn, xe := fun _ _ => False }

structure GScp (N : List Str) (sc scope : Scope) (own : List (Str × Nat)) : Prop where
  blk : BlkOk N sc scope own
  co : scope.isCoroutine = false
  cell : ∀ y ∈ scope.names, y.2 ≠ .cell
  dot : scope.names.lookup (".0" : Str) = some NameKind.local

theorem over_gen {A : Around} {elt tg iter : Expr} {ifs : List Expr} {scope : Scope} {pos : Pos} {it acc : Value} {cenv : Env} :
    A.over (.compLoop (.GeneratorExp elt [⟨tg, iter, ifs, 0⟩] scope pos) 0 it acc cenv) [] = A.deeper cenv := by
  rfl

section
variable {X : Cx} {pins : List (Addr × Obj)} {σ : L2.St} {H : Hp} {s : Shared}
theorem gen_inv {A : Around} {scope : Scope} {own : List (Str × Nat)} {fp : List Addr} {code : Value} {bi : Addr} {h' : Heap} {go : Obj} {g' : Array GenState} {d' : Drawn} {t' : Nat} {m : Str → Option Value}
    (I : Inv X pins σ H s) (hA : A.handled = none) (hF : A.frames = some X.stack) (S : GScp X.N X.env.scope scope own) (hN : X.N.Nodup)
    (hfp : ∀ b ∈ fp, FpOk X pins H b ∧ b < s.heap.objs.size) (hbi : bi = builtinsNs)
    (hn : h'.Ns s.heap.objs.size m) (hs : Heap.SameBut s.heap.objs.size (s.heap.push { cls := .type "frame", data := .dict #[] }) h')
    (hgo : ∀ v, go.data ≠ .cell v) (hg : AllBare g') (hp : ∀ h : Heap, (h.push go).get? h.objs.size = some go) :
    Inv (gcx X A s H (genEnv scope (cloFrom X.env.cells scope.names []) s.heap.objs.size code bi X.env) fp [(h'.objs.size, go)]) [] (wipe σ (own.map (·.2))) H
      { s with gens := g', toks := t', drawn := d', heap := h'.push go } := by
  have hsz : h'.objs.size = s.heap.objs.size + 1 := by rw [hs.1, Heap.size_push]
  have kp0 : ∀ b o, s.heap.get? b = some o → h'.get? b = some o := fun b o e => hs.extBut b o (Nat.ne_of_lt (Heap.lt_size e)) (Heap.get?_push_of_some _ e)
  have kp : ∀ b o, s.heap.get? b = some o → (h'.push go).get? b = some o := fun b o e => Heap.get?_push_of_some _ (kp0 b o e)
  have hfree : ∀ y ∈ scope.names, y.2 = .free → ∃ c, X.env.cells.lookup y.1 = some c := fun y hy e => by
    rcases S.blk.free y hy e with k | k
    · exact I.ok.has _ (.inl k)
    · exact I.ok.has _ (.inr k)
  have cm : ∀ {y c}, (cloFrom X.env.cells scope.names []).lookup y = some c → X.env.cells.lookup y = some c := fun {y c} hm => by
    rcases cloFrom_mem (PySem.mem_of_lookup hm) with q | ⟨h1, rfl⟩
    · cases q
    · obtain ⟨c, hc⟩ := hfree _ h1 rfl
      rw [hc]; rfl
  have ch : ∀ {y}, scope.names.lookup y = some .free → ∃ c, (cloFrom X.env.cells scope.names []).lookup y = some c := fun {y} hl =>
    mem_lookup (cloFrom_has (cells := X.env.cells) (acc := []) (PySem.mem_of_lookup hl))
  have hok : (gcx X A s H (genEnv scope (cloFrom X.env.cells scope.names []) s.heap.objs.size code bi X.env) fp [(h'.objs.size, go)]).Ok := by
    refine ⟨I.ok.mod, S.blk.kind, I.ok.glob, hbi, Nat.le_refl _, fun x y c e1 e2 => I.ok.inj x y c (cm e1) (cm e2), fun x hx => ?_, fun x c hf => (Bool.noConfusion hf), fun _ => hA, Around.frames_deeper hF, .inr ⟨rfl, rfl⟩,
      fun b hb => ⟨Nat.ne_of_lt (hfp b hb).2, fun x c e z => (hfp b hb).1.2.2.2.2.1 x c (cm e) z⟩, I.bs, Nat.le_trans I.ok.bsz I.sz, fun b o e hb => ?_, fun b hb z => ?_, I.stack, I.stkFree⟩
    · rcases hx with hx | hx
      · exact absurd rfl (S.cell _ (PySem.mem_of_lookup (show scope.names.lookup x = some .cell from hx)))
      · exact ch hx
    · rcases (hfp b hb).1.2.2.2.1 with z | z
      · exact I.ok.noex b o e z
      · exact absurd (Nat.lt_of_lt_of_le (Heap.lt_size (I.ok.bs b o e).1) z) (Nat.lt_irrefl _)
    · rcases List.mem_cons.mp (I.stkSub b z) with q | q
      · exact (hfp b hb).1.2.1 q
      · exact (hfp b hb).1.2.2.1 q
  have anew : H h'.objs.size = none := I.hok.fresh (by rw [hsz]; exact Nat.le_succ _)
  refine ⟨hok, rfl, hg, Un.kept kp, ⟨m, ?_, fun i x v e1 e2 e3 => ?_⟩, fun x c e => ?_, I.hok.fresh (Nat.le_refl _), fun x c e => I.freeC x c (cm e), fun p hpn => ?_, I.hok.kept kp, ?_⟩
  · obtain ⟨o, es, ep, q, r⟩ := hn
    exact ⟨o, es, ep, Heap.get?_push_of_some _ q, r⟩
  · obtain ⟨e4, e5⟩ := wipe_some e2
    have e3 : Vis scope x := e3
    have notown : scope.names.lookup x = some .local → False := fun hl => by
      rcases S.blk.own (x, .local) (PySem.mem_of_lookup hl) (.inl rfl) with q | q
      · obtain ⟨p, hp1, hp2⟩ := List.mem_map.mp q
        have hx := S.blk.ix p hp1
        have : p.2 = i := nodup_ix hN (by rw [hx, hp2]) e1
        exact e5 (List.mem_map.mpr ⟨p, hp1, this⟩)
      · exact q (List.mem_of_getElem? e1)
    rcases e3 with k | k | k
    · exact (notown k).elim
    · exact absurd rfl (S.cell _ (PySem.mem_of_lookup k))
    · have kk := S.blk.free (x, .free) (PySem.mem_of_lookup k) rfl
      obtain ⟨m0, hn0, hl0⟩ := I.loc
      obtain ⟨u, ru, lk⟩ := hl0 i x v e1 e4 (by rcases kk with q | q; exact .inr (.inl q); exact .inr (.inr q))
      refine ⟨u, ru, .inr ⟨.inr k, ?_⟩⟩
      obtain ⟨c, hc⟩ := ch k
      refine ⟨c, hc, ?_⟩
      rcases lk with ⟨q, _⟩ | ⟨_, c2, hc2, hcell⟩
      · have q2 : X.env.scope.names.lookup x = some .local := q
        rcases kk with z | z
        · rw [show X.env.scope.names.lookup x = some .cell from z] at q2; cases q2
        · rw [show X.env.scope.names.lookup x = some .free from z] at q2; cases q2
      · rw [cm hc] at hc2
        cases hc2
        obtain ⟨o, ho, hd⟩ := hcell
        exact ⟨o, kp _ _ ho, hd⟩
  · obtain ⟨v, o, ho, hd⟩ := I.cell x c (cm e)
    exact ⟨v, o, kp _ _ ho, hd⟩
  · have e : p = (h'.objs.size, go) := by simpa using hpn
    subst e
    refine ⟨hp h', anew, ?_, ?_, hgo⟩
    · show h'.objs.size ≠ s.heap.objs.size
      omega
    · intro z
      have hlt := (I.stack.mem z).2
      obtain ⟨o, ho, _⟩ := hlt
      have q : h'.objs.size < s.heap.objs.size := Heap.lt_size ho
      omega
  · rw [wipe_length]; exact I.len
end
end Gx

namespace Gx
open PySem PySem.Spec PyProof.Rows L2 GenW

section
variable {X : Cx} {pins : List (Addr × Obj)} {σ : L2.St}
/-- from the generator's frame back to the def's -/
theorem gen_back {A : Around} {s0 s : Shared} {H0 H : Hp} {cenv : Env} {fp : List Addr} {pn pp : List (Addr × Obj)} {τ : L2.St} (I : Inv X pins σ H0 s0)
    (hfp : ∀ b ∈ fp, FpOk X pins H0 b) (J : Inv (gcx X A s0 H0 cenv fp pn) pp τ H s) : Inv X pins σ H s :=
  I.call' (ch := fp) J.os J.base J.hok J.bare fun b hb => ⟨(hfp b hb).2.2.2.1, (hfp b hb).2.1, (hfp b hb).2.2.2.2.1, (hfp b hb).2.2.2.2.2⟩

theorem quiet_inv {s s' : Shared} {H : Hp} (I : Inv X pins σ H s) (q : Quiet s s') : Inv X pins σ H s' :=
  I.call' (ch := []) q.os (Un.kept q.keep) (I.hok.kept q.keep) q.bare fun b hb => by cases hb

/-- the generator's loop, each item a truth -/
theorem gen_seg {A : Around} {s0 : Shared} {H0 : Hp} {cenv : Env} {fp : List Addr} {a : Addr} {go : Obj} {gn : Nat} {bb : Bool} {elt tg iter : Expr} {ifs : List Expr} {scope : Scope} {pos : Pos}
    {it : Addr} {J : It} {tn : Nat → Heap → Prop} {gt : TG} {tt : TT} {te : TE} {vs : List Nat} {τ : L2.St} {W : Nat → Nat → Hp → Prop} {QE QO : Hp → Prop}
    (hco : cenv.scope.isCoroutine = false) (I0 : Inv X pins σ H0 s0) (hfp : ∀ b ∈ fp, FpOk X pins H0 b) (hlt : ∀ b ∈ fp, b < a) (isg : ∀ h : Heap, h.get? a = some go → h.IsGen a gn)
    (T : Turn X.prog X.w X.K tg J fp it tn)
    (pg : PG (gcx X A s0 H0 cenv fp [(a, go)]) tg gt) (pt : PTs (gcx X A s0 H0 cenv fp [(a, go)]) ifs tt) (pe : PE (gcx X A s0 H0 cenv fp [(a, go)]) elt te)
    (turn : ∀ i m H, W i m H → (J.stop i H ∧ QE H) ∨ (J.go i H ∧ ∃ Nx : Hp → Prop, (∀ H', Nx H' → ∃ m', m' < m ∧ W (i + 1) m' H') ∧ ∀ x H', J.yld i H x H' → gt x (wipe τ vs) H' fun σ2 H2 => wipe σ2 vs = wipe τ vs ∧ tt σ2 H2 fun b H3 =>
      if b = true then te σ2 H3 fun y H4 => ∃ c, y = V.bl c ∧ (c = bb → QO H4) ∧ (c = !bb → Nx H4) else Nx H3)) :
    ∀ (m n i : Nat) (s1 s : Shared) (H : Hp), m < n → W i m H → Inv (gcx X A s0 H0 cenv fp [(a, go)]) [] (wipe τ vs) H s → tn i s.heap → (∀ b ∈ fp, H b = none) →
      Seg (model X.prog X.w) A (RB fun s => ∃ H, Inv X pins σ H s ∧ QE H) (YB a gn bb fun s => ∃ H, Inv X pins σ H s ∧ QO H) n s1
        (.compLoop (.GeneratorExp elt [⟨tg, iter, ifs, 0⟩] scope pos) 0 (.ref it) .none cenv)
        ((model X.prog X.w).den (.compLoop (.GeneratorExp elt [⟨tg, iter, ifs, 0⟩] scope pos) 0 (.ref it) .none cenv)) [] s := by
  have stat : ∀ {σ' : L2.St} {H' : Hp} {s' : Shared}, Inv (gcx X A s0 H0 cenv fp [(a, go)]) [] σ' H' s' → (∀ b ∈ fp, H' b = none) → ∀ b ∈ fp, FpOk (gcx X A s0 H0 cenv fp [(a, go)]) [] H' b := fun {σ' H' s'} I' hn b hb =>
    ⟨hn b hb, (I'.ok.exf b hb).1, I'.ok.exfs b hb, .inl hb, fun x c e => (I'.ok.exf b hb).2 x c e, fun p hp => by
      have e : p = (a, go) := by simpa using hp
      subst e
      exact Nat.ne_of_gt (hlt b hb)⟩
  have isG : ∀ {pp : List (Addr × Obj)} {σ' : L2.St} {H' : Hp} {s' : Shared}, Inv (gcx X A s0 H0 cenv fp [(a, go)]) pp σ' H' s' → s'.heap.IsGen a gn := fun {pp σ' H' s'} I' =>
    isg _ (I'.pin (a, go) (List.mem_append_left _ (List.mem_singleton.mpr rfl))).1
  intro m
  induction m using Nat.strongRecOn with
  | ind m ih =>
  intro n i s1 s H hmn hW I st hnn
  show Seg _ A _ _ _ s1 _ ((compTurn (.GeneratorExp elt [⟨tg, iter, ifs, 0⟩] scope pos) 0 (.ref it) .none cenv).onRaise (leaving cenv)) [] s
  rw [compTurn_gen]
  rw [Sem.onRaise_eq_wrap]
  refine seg_bind_wrap (wpAny_standAt ?_)
  rcases turn i m H hW with ⟨stop, qe⟩ | ⟨go1, Nx, hNx, step⟩
  · have td := T.done (gcx X A s0 H0 cenv fp [(a, go)]) rfl rfl rfl rfl i [] s _ H (fun _ _ => False) I (stat I hnn) st stop
    refine seg_bind_wrap ?_
    rw [over_gen]
    refine thnF td fun r s6 hr => ?_
    obtain ⟨rfl, I6⟩ := hr
    exact seg_end (.ok .next) ⟨.inr rfl, H, gen_back I0 hfp I6, qe⟩
  · have ti := T.item (gcx X A s0 H0 cenv fp [(a, go)]) rfl rfl rfl rfl i [] s _ H (fun _ _ => False) I (stat I hnn) st go1
    refine seg_bind_wrap ?_
    rw [over_gen]
    refine thnF ti fun r s6 hr => ?_
    obtain ⟨u, rfl, h6⟩ := hr
    refine seg_bind_wrap ?_
    rw [over_gen]
    refine thnF h6 fun _ s7 h7 => ?_
    obtain ⟨x, H7, I7, r7, y7, st7, n7⟩ := h7
    have I7' := I7.pinned (stat I7 n7) (T.obj _ _ st7)
    refine seg_bind_wrap ?_
    rw [over_gen]
    refine thnF (pg.run _ s7 _ H7 x u _ I7' r7 (step x H7 y7)) fun _ s8 h8 => ?_
    obtain ⟨σ8, H8, I8, hw8, q8⟩ := h8
    refine seg_bind_wrap ?_
    rw [over_gen]
    refine thnF (pt.run _ s8 σ8 H8 _ I8 q8) fun b s9 h9 => ?_
    obtain ⟨H9, I9, q9⟩ := h9
    have fin : ∀ {s' : Shared} {H' : Hp}, Inv (gcx X A s0 H0 cenv fp [(a, go)]) ([] ++ pinsAt fp s7.heap) σ8 H' s' → Nx H' →
        ∃ m', m' < m ∧ W (i + 1) m' H' ∧ Inv (gcx X A s0 H0 cenv fp [(a, go)]) [] (wipe τ vs) H' s' ∧ tn (i + 1) s'.heap ∧ ∀ b ∈ fp, H' b = none := fun {s' H'} I' nx => by
      obtain ⟨m', hm, w'⟩ := hNx H' nx
      have pin' : ∀ b ∈ fp, ∀ o, s7.heap.get? b = some o → s'.heap.get? b = some o ∧ H' b = none := fun b hb o e =>
        let z := I'.pin (b, o) (List.mem_append_right _ (List.mem_append_right _ (mem_pinsAt hb e)))
        ⟨z.1, z.2.1⟩
      have hl8 : (wipe τ vs).length = σ8.length := by rw [← hw8, wipe_length]
      refine ⟨m', hm, w', (I'.unpinned (pins := [])).weak hl8 (fun j v e => by rw [← hw8] at e; exact (wipe_some e).1), T.keep _ _ _ st7 fun b hb o e => (pin' b hb o e).1, fun b hb => ?_⟩
      obtain ⟨o, e, _⟩ := T.obj _ _ st7 b hb
      exact (pin' b hb o e).2
    cases b with
    | false =>
      simp only [Bool.false_eq_true, if_false] at q9 ⊢
      obtain ⟨m', hm, w', I', st', n'⟩ := fin I9 q9
      exact seg_again rfl (ih m' hm n (i + 1) s1 _ _ (by omega) w' I' st' n')
    | true =>
      simp only [if_true] at q9 ⊢
      have hy : ∀ v, yieldOut cenv v = yieldValue v := fun v => by simp only [yieldOut, hco, Bool.false_eq_true, if_false]
      simp only [hy]
      rw [Sem.bind_eq_wrap', Sem.bind_eq_wrap', Sem.wrap_wrap, Sem.wrap_wrap]
      refine seg_wrap ?_
      rw [over_gen]
      refine thnF (pe.run _ s9 σ8 H9 _ I9 q9) fun y s10 h10 => ?_
      obtain ⟨yv, H10, I10, ry, c, rfl, hO, hC⟩ := h10
      have ey : y = Value.bool c := ry
      subst ey
      obtain ⟨n', rfl⟩ : ∃ n', n = n' + 1 := by
        exact ⟨n - 1, by omega⟩
      refine seg_at (seg_yield rfl rfl rfl ⟨I10.nolimit, isG I10, I10.bare, c, rfl, fun e => ⟨H10, gen_back I0 hfp I10, hO e⟩, fun e s2 hq => ?_⟩)
      obtain ⟨m', hm, w', I', st', nn'⟩ := fin I10 (hC e)
      have I2 := quiet_inv I' hq
      refine seg_again rfl (ih m' hm n' (i + 1) s2 s2 _ (by omega) w' I2 ?_ nn')
      exact T.keep _ _ _ st' fun b _ o e => hq.keep b o e
end
end Gx

namespace Gx
open PySem PySem.Spec PyProof.Rows L2 GenW Gr

def TabG (H : Hp) (P : Addr) : Prop := ∃ ps : Array Value, H P = some (.tbl ps) ∧ TriplesOk ps.toList
def Tabbed (P : Addr) (H H' : Hp) : Prop := TabG H' P ∧ ∀ b, b ≠ P → H' b = H b

/-- the reading of a generator expression whose items are truths; bb: the truth at which its consumer stops -/
def TurnB (J : It) (gt : TG) (tt : TT) (te : TE) (vs : List Nat) (σ : L2.St) (bb : Bool) (QE QO : Hp → Prop) (H0 : Hp) : Prop :=
  ∃ W : Nat → Nat → Hp → Prop, (∃ m, W 0 m H0) ∧ ∀ i m H, W i m H → (J.stop i H ∧ QE H) ∨ (J.go i H ∧ ∃ Nx : Hp → Prop, (∀ H', Nx H' → ∃ m', m' < m ∧ W (i + 1) m' H') ∧ ∀ x H', J.yld i H x H' → gt x (wipe σ vs) H' fun σ2 H2 => wipe σ2 vs = wipe σ vs ∧ tt σ2 H2 fun b H3 =>
    if b = true then te σ2 H3 fun y H4 => ∃ c, y = V.bl c ∧ (c = bb → QO H4) ∧ (c = !bb → Nx H4) else Nx H3)

section
variable {X : Cx} {pins : List (Addr × Obj)} {σ : L2.St} {H : Hp} {s : Shared}
theorem code_ok {c P : Addr} {gpos : Pos} {qn : Str} {scope : Scope} {ps : Array Value} {Q : Value → Shared → Prop} {E : Value → Shared → Prop}
    (I : Inv X pins σ H s) (TB : LamX.TabB X.base X.mg c P) (hcode : X.env.code = .ref c) (hT : H P = some (.tbl ps)) (ht : TriplesOk ps.toList)
    (h : ∀ code H' h' tk, Inv X pins σ H' { s with heap := h', toks := tk } → Tabbed P H H' → (∀ b o, b ≠ P → s.heap.get? b = some o → h'.get? b = some o) → s.heap.objs.size ≤ h'.objs.size → Q code { s with heap := h', toks := tk }) :
    wpAny (model X.prog X.w) X.A (genexprCode X.env gpos qn scope) Q E s := by
  have hPs : s.heap.get? P = some { cls := .none, data := .fields ps } := I.hok P _ hT
  have cd : PySem.W.CodeHd s.heap c P := TB.code.keeps fun b u e => I.bk b u e
  cases hf : codeAmong gpos ps.toList with
  | some cv =>
    refine wpAny_genexprCode_hit hcode (cd.code hPs ht) hf ?_
    exact h cv H s.heap s.toks I ⟨⟨ps, hT, ht⟩, fun _ _ => rfl⟩ (fun _ _ _ e => e) (Nat.le_refl _)
  | none =>
    refine wpAny_genexprCodeX hcode (cd.code hPs ht) (cd.tab hPs) hf fun c' h' tk hx hge hlt hco' _ htab' _ => ?_
    obtain ⟨o1, vs, f1, tf, fl, tg, inF, tx, ttt, op, _, _, _, _, _, _, _, _, _, htr, _⟩ := hco'
    have J := GxR.inv_tab (more := #[rawInt gpos.line, rawInt gpos.col, .ref c']) (h' := h') (g' := s.gens) (d' := s.drawn) (t' := tk) I hT (fun b o hb e => hx b o hb e) htab'.2 I.bare
    exact h _ _ h' tk J ⟨⟨_, upd_same, htr⟩, fun b hb => upd_ne hb⟩ (fun b o hb e => hx b o hb e) (Nat.le_trans hge (Nat.le_of_lt hlt))

theorem bltn_ok {c P : Addr} {Q : Addr → Shared → Prop} {E : Value → Shared → Prop} (I : Inv X pins σ H s) (TB : LamX.TabB X.base X.mg c P) (h : Q builtinsNs s) :
    wpAny (model X.prog X.w) X.A (builtinsFor X.env.globals X.env.builtins) Q E s := by
  obtain ⟨bm, ob, e1, e2, e3, e4, e5, e6, e7, e8⟩ := TB.bm
  exact wpAny_builtinsFor (m := X.mg) (by rw [I.ok.glob]; exact I.mod.glob.keeps I.bk) e1 e2 (I.bk _ _ e5) e6 e7 e8 h

theorem gen_made {c P : Addr} {elt tg iter : Expr} {ifs : List Expr} {scope : Scope} {gpos : Pos} {own : List (Str × Nat)} {wi : TI} {gt : TG} {tt : TT} {te : TE} {j : Nat} {bb : Bool} {Q' : Value → Shared → Prop} {QE QO : Hp → Prop}
    (hr : RoomG (j + 1) X.A) (hN : X.N.Nodup) (TB : LamX.TabB X.base X.mg c P) (hcode : X.env.code = .ref c) (S : GScp X.N X.env.scope scope own) (hi : PI X tg iter wi)
    (hg : ∀ (A : Around) (s : Shared) (H : Hp) (cl : List (Str × Addr)) (C : Addr) (code : Value) (fp : List Addr) (pn : List (Addr × Obj)), RoomG j (A.deeper (genEnv scope cl C code builtinsNs X.env)) → PG (gcx X A s H (genEnv scope cl C code builtinsNs X.env) fp pn) tg gt)
    (ht : ∀ (A : Around) (s : Shared) (H : Hp) (cl : List (Str × Addr)) (C : Addr) (code : Value) (fp : List Addr) (pn : List (Addr × Obj)), RoomG j (A.deeper (genEnv scope cl C code builtinsNs X.env)) → PTs (gcx X A s H (genEnv scope cl C code builtinsNs X.env) fp pn) ifs tt)
    (he : ∀ (A : Around) (s : Shared) (H : Hp) (cl : List (Str × Addr)) (C : Addr) (code : Value) (fp : List Addr) (pn : List (Addr × Obj)), RoomG j (A.deeper (genEnv scope cl C code builtinsNs X.env)) → PE (gcx X A s H (genEnv scope cl C code builtinsNs X.env) fp pn) elt te)
    (hs : ∀ v, genFold iter X.env v = pure v) (I : Inv X pins σ H s)
    (h : wi σ H fun J H1 => TabG H1 P ∧ ∀ H2, Tabbed P H1 H2 → TurnB J gt tt te (own.map (·.2)) σ bb QE QO H2)
    (hQ : ∀ a g s5, s5.heap.IsGen a g → s5.heap.NoLimit → AllBare s5.gens → (∃ gs, s5.gens[g]? = some gs ∧ ∀ A s', A.handled = none → A.frames = some X.stack → (∀ env, RoomG j (A.deeper env)) → Quiet s5 s' →
      ∃ n, gs.Goes (model X.prog X.w) A (RB fun s => ∃ H, Inv X pins σ H s ∧ QE H) (YB a g bb fun s => ∃ H, Inv X pins σ H s ∧ QO H) n (.send .none) s') → Q' (.ref a) s5) :
    wpAny (model X.prog X.w) X.A (eval (.GeneratorExp elt [⟨tg, iter, ifs, 0⟩] scope gpos) X.env) Q' X.xe s := by
  have hfree : ∀ y ∈ scope.names, y.2 = .free → ∃ c, X.env.cells.lookup y.1 = some c := fun y hy e => by
    rcases S.blk.free y hy e with k | k
    · exact I.ok.has _ (.inl k)
    · exact I.ok.has _ (.inr k)
  refine wpAny_GeneratorExp_make S.co (closure_ok hfree) S.cell S.dot S.blk.kind (by have := hr.dp; omega) ?_ hs
  refine thn (hi.run pins s σ H _ I h) fun xv s1 h1 => thn h1 fun itv s2 h2 => ?_
  obtain ⟨it, fp, tn, J, H2, rfl, I2, T, st2, f2, ⟨ps, hT, htr⟩, hR⟩ := h2
  refine ⟨I2.nolimit, ?_⟩
  refine code_ok I2 TB hcode hT htr fun code H3 h3 tk I3 hTb kp3 sz3 => ?_
  refine bltn_ok I3 TB ?_
  obtain ⟨W, ⟨m0, w0⟩, turn⟩ := hR H3 hTb
  -- the iterator's objects are no tables
  have nfpP : ∀ b ∈ fp, b ≠ P := fun b hb e => by
    have := (f2 b hb).1
    rw [e, hT] at this
    cases this
  have f3 : ∀ b ∈ fp, FpOk X pins H3 b := fun b hb => ⟨by rw [hTb.2 b (nfpP b hb)]; exact (f2 b hb).1, (f2 b hb).2⟩
  have st3 : tn 0 h3 := T.keep _ _ _ st2 fun b hb o e => kp3 b o (nfpP b hb) e
  have lt3 : ∀ b ∈ fp, b < h3.objs.size := fun b hb => by
    obtain ⟨o, e, _⟩ := T.obj _ _ st3 b hb
    exact Heap.lt_size e
  intro h4 hn4 hs4
  have sz4 : h4.objs.size = h3.objs.size + 1 := by rw [hs4.1]; exact Heap.size_push ..
  have kp4 : ∀ b o, h3.get? b = some o → h4.get? b = some o := fun b o e => hs4.extBut b o (Nat.ne_of_lt (Heap.lt_size e)) (Heap.get?_push_of_some _ e)
  refine hQ h4.objs.size s2.gens.size _ ⟨_, _, _, Heap.get?_push_size _ rfl, rfl, rfl, rfl⟩ ?_ (AllBare.push I2.bare rfl) ⟨_, Array.getElem?_push_size .., ?_⟩
  · exact I3.nolimit.keeps fun b o e => Heap.get?_push_of_some _ (kp4 b o e)
  intro A s' hA hF hRm hq
  refine ⟨m0 + 1, rfl, ?_⟩
  have I5 := gen_inv (code := code) (go := { cls := .type "generator", data := .fields #[.int s2.gens.size 0, .str "<genexpr>" (tk + 1), .str (X.env.qual ++ "<genexpr>") (tk + 1 + 1)] })
    (g' := s2.gens.push (.fresh (.compStart (.GeneratorExp elt [⟨tg, iter, ifs, 0⟩] scope gpos) 0 (.ref it) .none (genEnv scope (cloFrom X.env.cells scope.names []) h3.objs.size code builtinsNs X.env)))) (d' := s2.drawn) (t' := tk + 1 + 1 + 1)
    I3 hA hF S hN (fun b hb => ⟨f3 b hb, lt3 b hb⟩) rfl hn4 hs4 (fun v e => by cases e) (AllBare.push I2.bare rfl) (fun h => Heap.get?_push_size _ rfl)
  have I6 := quiet_inv I5 hq
  have st6 : tn 0 s'.heap := T.keep _ _ _ st3 fun b hb o e => hq.keep b o (Heap.get?_push_of_some _ (kp4 b o e))
  have loop := gen_seg (A := A) (elt := elt) (iter := iter) (scope := scope) (pos := gpos) (bb := bb) (gn := s2.gens.size) (QE := QE) (QO := QO) (τ := σ) (vs := own.map (·.2)) S.co I3 f3 (fun b hb => by rw [sz4]; exact Nat.lt_succ_of_lt (lt3 b hb)) (fun h e => ⟨_, _, _, e, rfl, rfl, rfl⟩) T
    (hg A _ _ _ _ code fp _ (hRm _)) (ht A _ _ _ _ code fp _ (hRm _)) (he A _ _ _ _ code fp _ (hRm _)) turn m0 (m0 + 1) 0 s' s' H3 (Nat.lt_succ_self _) w0 I6 st6 (fun b hb => (f3 b hb).1)
  show Seg _ A _ _ _ s' _ ((compStart (.GeneratorExp elt [⟨tg, iter, ifs, 0⟩] scope gpos) 0 (.ref it) .none _).onRaise (leaving _)) [] s'
  unfold compStart
  rw [Sem.onRaise_eq_wrap]
  show Seg _ A _ _ _ s' _ ((ask >>= _).wrap _ _ _ _) [] s'
  refine seg_bind_wrap (wpAny_askSetting ?_)
  split
  · exact seg_again rfl loop
  · refine seg_bind_wrap (wpAny_rule ?_)
    show Seg _ A _ _ _ s' _ ((standAt iter.pos >>= _).wrap _ _ _ _) [] s'
    exact seg_bind_wrap (wpAny_standAt (seg_bind_wrap (T.self _ 0 _ _ _ st6 (seg_again rfl loop))))

def tAnyG (P : Addr) (wi : TI) (gt : TG) (tt : TT) (te : TE) (vs : List Nat) : TE := fun σ H Q => wi σ H fun J H1 => TabG H1 P ∧ ∀ H2, Tabbed P H1 H2 → TurnB J gt tt te vs σ true (fun H => Q (.bl false) H) (fun H => Q (.bl true) H) H2
end
end Gx

namespace Gx
open PySem PySem.Spec PyProof.Rows L2 GenW Gr
section
variable {X : Cx}
theorem room_gen {j : Nat} {A : Around} (r : RoomG (j + 1) A) (env : Env) : RoomG j (A.in1.in1.deeper env) :=
  ⟨⟨r.hd, by have := r.dp; show A.depth + 1 + 3 * j + 5 < _; omega, by have := r.un; show A.units + 1 + 1 + 3 + 16 * j + 200 < _; omega⟩, r.gd⟩

theorem call_anyG {pins : List (Addr × Obj)} {σ : L2.St} {s : Shared} {a : Addr} {g : Nat} {QE QO : Hp → Prop} {j : Nat} {Q : VK} {gs : GenState}
    (hr : RoomG (j + 1) X.A) (hF : X.A.frames = some X.stack) (hg : s.heap.IsGen a g) (hl : s.heap.NoLimit) (hb : AllBare s.gens) (hgs : s.gens[g]? = some gs)
    (hgo : ∀ A s', A.handled = none → A.frames = some X.stack → (∀ env, RoomG j (A.deeper env)) → Quiet s s' →
      ∃ n, gs.Goes (model X.prog X.w) A (RB fun s => ∃ H, Inv X pins σ H s ∧ QE H) (YB a g true fun s => ∃ H, Inv X pins σ H s ∧ QO H) n (.send .none) s')
    (hE : ∀ H, QE H → Q (.bl false) H) (hO : ∀ H, QO H → Q (.bl true) H) :
    wpAny (model X.prog X.w) X.A (call (.builtin "any") [.ref a]) (EP X pins σ Q) X.xe s := by
  refine call_function_tree F.kind_any F.plain_any F.entry_any (F.args_any1 _) ?_
  unfold Builtin.«any»
  refine wpAny_bind (m := oneArg "any" _) (wpAny_pure ?_)
  refine wpAny_bind (wpAny_pyIter_gen hg ?_)
  obtain ⟨n, hn⟩ := hgo X.A.in1.in1 (s.setGen g .running) hr.hd hF (room_gen hr) (quiet_set hb rfl)
  refine wpAny_pure ⟨plainId_quiet F.plain_any_loop _, ?_⟩
  refine any_loop (A := X.A) (P := X.prog) (w := X.w) (g := g) hr.hd (by have := hr.dp; omega) (fun s1 s2 h q => ?_) (fun s1 s2 h os hgn k => ?_) n s hg hl ⟨gs, hgs, hn⟩
  · obtain ⟨H, I, q0⟩ := h
    exact ⟨.bl true, H, quiet_inv I q, rfl, hO H q0⟩
  · obtain ⟨H, I, q0⟩ := h
    obtain ⟨x, e, hx⟩ := hgn
    exact ⟨.bl false, H, quiet_inv I ⟨os, by rw [e]; exact allBare_setGen I.bare hx, k⟩, rfl, hE H q0⟩

/-- what a generator expression's parts must be, in every frame of it -/
structure GParts (X : Cx) (j : Nat) (scope : Scope) (tg : Expr) (ifs : List Expr) (elt : Expr) (gt : TG) (tt : TT) (te : TE) : Prop where
  g : ∀ (A : Around) (s : Shared) (H : Hp) (cl : List (Str × Addr)) (C : Addr) (code : Value) (fp : List Addr) (pn : List (Addr × Obj)), RoomG j (A.deeper (genEnv scope cl C code builtinsNs X.env)) → PG (gcx X A s H (genEnv scope cl C code builtinsNs X.env) fp pn) tg gt
  t : ∀ (A : Around) (s : Shared) (H : Hp) (cl : List (Str × Addr)) (C : Addr) (code : Value) (fp : List Addr) (pn : List (Addr × Obj)), RoomG j (A.deeper (genEnv scope cl C code builtinsNs X.env)) → PTs (gcx X A s H (genEnv scope cl C code builtinsNs X.env) fp pn) ifs tt
  e : ∀ (A : Around) (s : Shared) (H : Hp) (cl : List (Str × Addr)) (C : Addr) (code : Value) (fp : List Addr) (pn : List (Addr × Obj)), RoomG j (A.deeper (genEnv scope cl C code builtinsNs X.env)) → PE (gcx X A s H (genEnv scope cl C code builtinsNs X.env) fp pn) elt te

theorem pe_anyG {c P : Addr} {elt tg iter : Expr} {ifs : List Expr} {scope : Scope} {gpos p pos : Pos} {own : List (Str × Nat)} {wi : TI} {gt : TG} {tt : TT} {te : TE} {j : Nat}
    (hr : RoomG (j + 1) X.A) (hgl : Gl X "any") (hm : X.mg "any" = none) (hN : X.N.Nodup) (TB : LamX.TabB X.base X.mg c P) (hcode : X.env.code = .ref c) (S : GScp X.N X.env.scope scope own) (hi : PI X tg iter wi)
    (hp : GParts X j scope tg ifs elt gt tt te) (hs : ∀ v, genFold iter X.env v = pure v)
    (he : starEach [.GeneratorExp elt [⟨tg, iter, ifs, 0⟩] scope gpos] X.env = (false, eval (.GeneratorExp elt [⟨tg, iter, ifs, 0⟩] scope gpos) X.env) :: starEach [] X.env := by rfl) :
    PE X (.Call (.Name "any" p) [.GeneratorExp elt [⟨tg, iter, ifs, 0⟩] scope gpos] [] pos) (tAnyG P wi gt tt te (own.map (·.2))) := by
  refine ⟨fun pins s σ H Q I h => ?_⟩
  refine wpAny_Call_Name_kw (ld_blt I hgl hm boot_any ?_)
  refine PyProof.Rows.callWith_builtin1 ?_ he (by rfl)
  rw [he]
  show wpAny _ _ (spliced ((false, eval (.GeneratorExp elt [⟨tg, iter, ifs, 0⟩] scope gpos) X.env) :: backTo pos (starEach [] X.env))) _ _ s
  refine Calls.spliced_cons (gen_made hr hN TB hcode S hi hp.g hp.t hp.e hs I h fun a g s5 h1 h2 h3 h4 => ?_)
  obtain ⟨gs, h5, h6⟩ := h4
  refine Calls.spliced_nil ?_
  exact call_anyG hr I.ok.frames h1 h2 h3 h5 h6 (fun _ z => z) (fun _ z => z)
end
end Gx

namespace Gx
open PySem PySem.Spec PyProof.Rows L2 GenW

/-- a consumer that puts all items into the list at S -/
def YL (a : Addr) (g : Nat) (S : Addr) : Protocol := fun _ _ v s kap =>
  s.heap.NoLimit ∧ s.heap.IsGen a g ∧ AllBare s.gens ∧ (∃ acc c, s.heap.get? S = some (lstObj acc c) ∧ acc.size < sizeLine) ∧ ∀ s', Slept S v s s' → kap (.send .none) s'

def TurnL (J : It) (gt : TG) (tt : TT) (te : TE) (vs : List Nat) (σ : L2.St) (QE : List V → Hp → Prop) (H0 : Hp) : Prop :=
  ∃ W : Nat → Nat → List V → Hp → Prop, (∃ m, W 0 m [] H0) ∧ ∀ i m ys H, W i m ys H → (J.stop i H ∧ QE ys H) ∨ (J.go i H ∧ ∃ Nx : List V → Hp → Prop, (∀ ys' H', Nx ys' H' → ∃ m', m' < m ∧ W (i + 1) m' ys' H') ∧ ∀ x H', J.yld i H x H' → gt x (wipe σ vs) H' fun σ2 H2 => wipe σ2 vs = wipe σ vs ∧ tt σ2 H2 fun b H3 =>
    if b = true then te σ2 H3 fun y H4 => ys.length < sizeLine ∧ Nx (ys ++ [y]) H4 else Nx ys H3)

/-- the end of a collecting run -/
def LastL (X : Cx) (pins : List (Addr × Obj)) (σ : L2.St) (S : Addr) (QE : List V → Hp → Prop) (s : Shared) : Prop :=
  ∃ ys acc c H, s.heap.get? S = some (lstObj acc c) ∧ Vals ys acc.toList ∧ Inv X pins σ H s ∧ H S = none ∧ QE ys H

section
variable {X : Cx} {pins : List (Addr × Obj)} {σ : L2.St}
theorem gen_segL {A : Around} {s0 : Shared} {H0 : Hp} {cenv : Env} {fp : List Addr} {a S : Addr} {go : Obj} {gn : Nat} {elt tg iter : Expr} {ifs : List Expr} {scope : Scope} {pos : Pos}
    {it : Addr} {J : It} {tn : Nat → Heap → Prop} {gt : TG} {tt : TT} {te : TE} {vs : List Nat} {τ : L2.St} {W : Nat → Nat → List V → Hp → Prop} {QE : List V → Hp → Prop}
    (hco : cenv.scope.isCoroutine = false) (I0 : Inv X pins σ H0 s0) (hfp : ∀ b ∈ fp, FpOk X pins H0 b) (hlt : ∀ b ∈ fp, b < a) (haS : a < S) (hap : Apart (gcx X A s0 H0 cenv fp [(a, go)]) S) (isg : ∀ h : Heap, h.get? a = some go → h.IsGen a gn)
    (T : Turn X.prog X.w X.K tg J fp it tn)
    (pg : PG (gcx X A s0 H0 cenv fp [(a, go)]) tg gt) (pt : PTs (gcx X A s0 H0 cenv fp [(a, go)]) ifs tt) (pe : PE (gcx X A s0 H0 cenv fp [(a, go)]) elt te)
    (turn : ∀ i m ys H, W i m ys H → (J.stop i H ∧ QE ys H) ∨ (J.go i H ∧ ∃ Nx : List V → Hp → Prop, (∀ ys' H', Nx ys' H' → ∃ m', m' < m ∧ W (i + 1) m' ys' H') ∧ ∀ x H', J.yld i H x H' → gt x (wipe τ vs) H' fun σ2 H2 => wipe σ2 vs = wipe τ vs ∧ tt σ2 H2 fun b H3 =>
      if b = true then te σ2 H3 fun y H4 => ys.length < sizeLine ∧ Nx (ys ++ [y]) H4 else Nx ys H3)) :
    ∀ (m n i : Nat) (ys : List V) (s1 s : Shared) (H : Hp), m < n → W i m ys H → GI (gcx X A s0 H0 cenv fp [(a, go)]) S [] ys (wipe τ vs) H s → tn i s.heap → (∀ b ∈ fp, H b = none) →
      Seg (model X.prog X.w) A (RB (LastL X pins σ S QE)) (YL a gn S) n s1
        (.compLoop (.GeneratorExp elt [⟨tg, iter, ifs, 0⟩] scope pos) 0 (.ref it) .none cenv)
        ((model X.prog X.w).den (.compLoop (.GeneratorExp elt [⟨tg, iter, ifs, 0⟩] scope pos) 0 (.ref it) .none cenv)) [] s := by
  have hpnS : ∀ p ∈ (gcx X A s0 H0 cenv fp [(a, go)]).pn, p.1 ≠ S := fun p hp => by
    have e : p = (a, go) := by simpa using hp
    subst e
    exact Nat.ne_of_lt haS
  have stat : ∀ {acc : Array Value} {c : Nat} {σ' : L2.St} {H' : Hp} {s' : Shared}, Inv (gcx X A s0 H0 cenv fp [(a, go)]) [(S, lstObj acc c)] σ' H' s' → (∀ b ∈ fp, H' b = none) → ∀ b ∈ fp, FpOk (gcx X A s0 H0 cenv fp [(a, go)]) [(S, lstObj acc c)] H' b := fun {acc c σ' H' s'} I' hn b hb =>
    ⟨hn b hb, (I'.ok.exf b hb).1, I'.ok.exfs b hb, .inl hb, fun x c e => (I'.ok.exf b hb).2 x c e, fun p hp => by
      have hlb := hlt b hb
      rcases List.mem_append.mp hp with z | z
      · have e : p = (a, go) := by simpa using z
        subst e
        exact Nat.ne_of_gt hlb
      · have e : p = (S, lstObj acc c) := by simpa using z
        subst e
        exact Nat.ne_of_gt (Nat.lt_trans hlb haS)⟩
  have isG : ∀ {pp : List (Addr × Obj)} {σ' : L2.St} {H' : Hp} {s' : Shared}, Inv (gcx X A s0 H0 cenv fp [(a, go)]) pp σ' H' s' → s'.heap.IsGen a gn := fun {pp σ' H' s'} I' =>
    isg _ (I'.pin (a, go) (List.mem_append_left _ (List.mem_singleton.mpr rfl))).1
  intro m
  induction m using Nat.strongRecOn with
  | ind m ih =>
  intro n i ys s1 s H hmn hW hI st hnn
  obtain ⟨acc, cc, rys, I⟩ := hI
  show Seg _ A _ _ _ s1 _ ((compTurn (.GeneratorExp elt [⟨tg, iter, ifs, 0⟩] scope pos) 0 (.ref it) .none cenv).onRaise (leaving cenv)) [] s
  rw [compTurn_gen]
  rw [Sem.onRaise_eq_wrap]
  refine seg_bind_wrap (wpAny_standAt ?_)
  rcases turn i m ys H hW with ⟨stop, qe⟩ | ⟨go1, Nx, hNx, step⟩
  · have td := T.done (gcx X A s0 H0 cenv fp [(a, go)]) rfl rfl rfl rfl i _ s _ H (fun _ _ => False) I (stat I hnn) st stop
    refine seg_bind_wrap ?_
    rw [over_gen]
    refine thnF td fun r s6 hr => ?_
    obtain ⟨rfl, I6⟩ := hr
    have pS := I6.pin (S, lstObj acc cc) (List.mem_append_right _ (List.mem_singleton.mpr rfl))
    exact seg_end (.ok .next) ⟨.inr rfl, ys, acc, cc, H, pS.1, rys, gen_back I0 hfp I6, pS.2.1, qe⟩
  · have ti := T.item (gcx X A s0 H0 cenv fp [(a, go)]) rfl rfl rfl rfl i _ s _ H (fun _ _ => False) I (stat I hnn) st go1
    refine seg_bind_wrap ?_
    rw [over_gen]
    refine thnF ti fun r s6 hr => ?_
    obtain ⟨u, rfl, h6⟩ := hr
    refine seg_bind_wrap ?_
    rw [over_gen]
    refine thnF h6 fun _ s7 h7 => ?_
    obtain ⟨x, H7, I7, r7, y7, st7, n7⟩ := h7
    have I7' := I7.pinned (stat I7 n7) (T.obj _ _ st7)
    refine seg_bind_wrap ?_
    rw [over_gen]
    refine thnF (pg.run _ s7 _ H7 x u _ I7' r7 (step x H7 y7)) fun _ s8 h8 => ?_
    obtain ⟨σ8, H8, I8, hw8, q8⟩ := h8
    refine seg_bind_wrap ?_
    rw [over_gen]
    refine thnF (pt.run _ s8 σ8 H8 _ I8 q8) fun b s9 h9 => ?_
    obtain ⟨H9, I9, q9⟩ := h9
    have hl8 : (wipe τ vs).length = σ8.length := by rw [← hw8, wipe_length]
    have fin : ∀ {s' : Shared} {H' : Hp}, Inv (gcx X A s0 H0 cenv fp [(a, go)]) ([(S, lstObj acc cc)] ++ pinsAt fp s7.heap) σ8 H' s' →
        Inv (gcx X A s0 H0 cenv fp [(a, go)]) [(S, lstObj acc cc)] (wipe τ vs) H' s' ∧ tn (i + 1) s'.heap ∧ ∀ b ∈ fp, H' b = none := fun {s' H'} I' => by
      have pin' : ∀ b ∈ fp, ∀ o, s7.heap.get? b = some o → s'.heap.get? b = some o ∧ H' b = none := fun b hb o e =>
        let z := I'.pin (b, o) (List.mem_append_right _ (List.mem_append_right _ (mem_pinsAt hb e)))
        ⟨z.1, z.2.1⟩
      refine ⟨I'.unpinned.weak hl8 (fun j v e => by rw [← hw8] at e; exact (wipe_some e).1), T.keep _ _ _ st7 fun b hb o e => (pin' b hb o e).1, fun b hb => ?_⟩
      obtain ⟨o, e, _⟩ := T.obj _ _ st7 b hb
      exact (pin' b hb o e).2
    cases b with
    | false =>
      simp only [Bool.false_eq_true, if_false] at q9 ⊢
      obtain ⟨m', hm, w'⟩ := hNx ys _ q9
      obtain ⟨I', st', n'⟩ := fin I9
      exact seg_again rfl (ih m' hm n (i + 1) ys s1 _ _ (by omega) w' ⟨acc, cc, rys, I'⟩ st' n')
    | true =>
      simp only [if_true] at q9 ⊢
      have hy : ∀ v, yieldOut cenv v = yieldValue v := fun v => by simp only [yieldOut, hco, Bool.false_eq_true, if_false]
      simp only [hy]
      rw [Sem.bind_eq_wrap', Sem.bind_eq_wrap', Sem.wrap_wrap, Sem.wrap_wrap]
      refine seg_wrap ?_
      rw [over_gen]
      refine thnF (pe.run _ s9 σ8 H9 _ I9 q9) fun y s10 h10 => ?_
      obtain ⟨yv, H10, I10, ry, hlen, hC⟩ := h10
      obtain ⟨n', rfl⟩ : ∃ n', n = n' + 1 := ⟨n - 1, by omega⟩
      obtain ⟨I', st', nn'⟩ := fin I10
      have pS := I'.pin (S, lstObj acc cc) (List.mem_append_right _ (List.mem_singleton.mpr rfl))
      have hsz : acc.size < sizeLine := by
        have e1 := rys.length
        have e2 : acc.toList.length = acc.size := by simp
        omega
      refine seg_at (seg_yield rfl rfl rfl ⟨I10.nolimit, isG I10, I10.bare, ⟨acc, cc, pS.1, hsz⟩, fun s2 hq => ?_⟩)
      obtain ⟨m', hm, w'⟩ := hNx _ _ hC
      have G2 := GI.woken (x := yv) hpnS (fun p hp => by cases hp) hap ⟨acc, cc, rys, I'⟩ ry hq
      refine seg_again rfl (ih m' hm n' (i + 1) (ys ++ [yv]) s2 s2 _ (by omega) w' G2 ?_ nn')
      refine T.keep _ _ _ st' fun b hb o e => hq.keep b o ?_ e
      exact Nat.ne_of_lt (Nat.lt_trans (hlt b hb) haS)
end
end Gx

namespace Gx
open PySem PySem.Spec PyProof.Rows L2 GenW Gr

section
variable {P : Program} {w : World} {A : Around}
theorem yl_mono {a S : Addr} {g : Nat} : ∀ n s₀ v s (kap kap' : Resume → Shared → Prop), (∀ r s', kap r s' → kap' r s') → YL a g S n s₀ v s kap → YL a g S n s₀ v s kap' := by
  rintro n s₀ v s kap kap' hk ⟨q1, q2, q3, q4, q5⟩
  exact ⟨q1, q2, q3, q4, fun s' z => hk _ _ (q5 s' z)⟩

theorem next_l {E : Value → Shared → Prop} {s : Shared} {a S : Addr} {g n : Nat} {Last : Shared → Prop} {gs : GenState} {Q : Option Value → Shared → Prop}
    (hh : A.handled = none) (hl : s.heap.NoLimit) (hd : A.depth < recursionLimit) (hg : s.heap.IsGen a g) (hgs : s.gens[g]? = some gs)
    (hgo : gs.Goes (model P w) A.in1 (RB Last) (YL a g S) n (.send .none) (s.setGen g .running))
    (hY : ∀ v s1 gs', g < s1.gens.size → gs'.bare = true → YL a g S (n - 1) (s.setGen g .running) v s1 (fun r' s2 => match n with
        | 0 => False
        | m + 1 => gs'.Goes (model P w) A.in1 (RB Last) (YL a g S) m r' s2) → Q (some v) (s1.setGen g gs'))
    (hP : ∀ s1, Last s1 → ∀ h', (∀ b o, s1.heap.get? b = some o → h'.get? b = some o) → Q none { s1.setGen g .finished with heap := h' }) :
    wpAny (model P w) A (pyNext (.ref a)) Q E s := by
  have hgl : g < s.gens.size := (Array.getElem?_eq_some_iff.mp hgs).1
  have h2 : ∀ n s₀ r s, RB Last n s₀ r s → (((r = .ok (.ret .none) ∨ r = .ok .next) ∧ Last s) ∨ ∃ e, r = .error e ∧ False) := fun _ _ _ _ q => .inl q
  have h2' : ∀ n (s₀ : Shared) r s, (((r = .ok (.ret .none) ∨ r = .ok .next) ∧ Last s) ∨ ∃ e, r = .error e ∧ False) → RB Last n s₀ r s := fun _ _ _ _ q => by
    rcases q with q | ⟨_, _, z⟩
    · exact q
    · exact z.elim
  have conv : ∀ {x : GenState} {B : Around} {m : Nat} {r : Resume} {t : Shared}, x.Goes (model P w) B (RB Last) (YL a g S) m r t →
      x.Goes (model P w) B (fun n s₀ r s₁ => ((r = .ok (.ret .none) ∨ r = .ok .next) ∧ Last s₁) ∨ ∃ e, r = .error e ∧ False) (YL a g S) m r t := by
    intro x B m r t h
    cases x with
    | fresh c => exact ⟨h.1, seg_imp h2 yl_mono m h.2⟩
    | suspended k l c p fs cl => exact seg_imp h2 yl_mono m h
    | running => exact h.elim
    | finished => exact h.elim
  have back : ∀ {x : GenState} {B : Around} {m : Nat} {r : Resume} {t : Shared}, x.Goes (model P w) B (fun n s₀ r s₁ => ((r = .ok (.ret .none) ∨ r = .ok .next) ∧ Last s₁) ∨ ∃ e, r = .error e ∧ False) (YL a g S) m r t →
      x.Goes (model P w) B (RB Last) (YL a g S) m r t := by
    intro x B m r t h
    cases x with
    | fresh c => exact ⟨h.1, seg_imp h2' yl_mono m h.2⟩
    | suspended k l c p fs cl => exact seg_imp h2' yl_mono m h
    | running => exact h.elim
    | finished => exact h.elim
  refine wpAny_gsz (n := g + 1) hgl ?_
  refine next_genG (Er := fun _ _ => False) (F := fun _ _ s1 => Last s1) hh hl hd hg hgs (conv hgo) (fun v s1 gs' hb hv => ?_) (fun s1 hp h' hk => ?_) fun e s1 he => he.elim
  · intro hsz
    have hsz1 : g < s1.gens.size := by
      have q : (s1.setGen g gs').gens.size = s1.gens.size := setGen_size _ _ _
      have hsz' : g + 1 ≤ (s1.setGen g gs').gens.size := hsz
      omega
    refine hY v s1 gs' hsz1 hb ?_
    obtain ⟨q1, q2, q3, q4, q5⟩ := hv
    refine ⟨q1, q2, q3, q4, fun s' z => ?_⟩
    have q7 := q5 s' z
    cases n with
    | zero => exact q7
    | succ m => exact back q7
  · intro _
    exact hP s1 hp h' hk

/-- the loop that fills the list at S -/
theorem fill_loop {R : Result → Shared → Prop} {a S : Addr} {g : Nat} {res : Value} {Last : Shared → Prop} (hh : A.handled = none) (hd : A.depth < recursionLimit) (hSa : S ≠ a) (hSc : S ≠ cStatics)
    (hL : ∀ s s', Last s → s'.os = s.os → (∃ x, s'.gens = (s.setGen g x).gens ∧ x.bare = true) → (∀ b o, s.heap.get? b = some o → s'.heap.get? b = some o) → R (.ok (.ret res)) s') :
    ∀ (n : Nat) (s : Shared), s.heap.IsGen a g → s.heap.NoLimit →
      (∃ gs, s.gens[g]? = some gs ∧ gs.Goes (model P w) A.in1.in1 (RB Last) (YL a g S) n (.send .none) (s.setGen g .running)) →
      codeAny (model P w) A (.builtin "list.extend.loop" ⟨[.ref S, .ref a, res], []⟩) R s := by
  intro n
  induction n with
  | zero =>
    rintro s hg hl ⟨gs, hgs, hgo⟩
    refine codeAny_builtin F.entry_extend_loop ?_
    rw [Around.under_plainId F.plain_extend_loop _]
    show wpAny _ A.in1 (pyNext (.ref a) >>= _) _ _ s
    refine wpAny_bind (next_l (A := A.in1) hh hl hd hg hgs hgo (fun v s1 gs' hsz hb hv => ?_) (fun s1 hp h' hk => ?_))
    · obtain ⟨_, _, q3, ⟨acc, c, q4, _⟩, q5⟩ := hv
      exact (q5 _ (Slept.push q4 q3)).elim
    · exact wpAny_pure (hL s1 _ hp rfl ⟨.finished, rfl, rfl⟩ hk)
  | succ n ih =>
    rintro s hg hl ⟨gs, hgs, hgo⟩
    refine codeAny_builtin F.entry_extend_loop ?_
    rw [Around.under_plainId F.plain_extend_loop _]
    show wpAny _ A.in1 (pyNext (.ref a) >>= _) _ _ s
    refine wpAny_bind (next_l (A := A.in1) hh hl hd hg hgs hgo (fun v s1 gs' hsz hb hv => ?_) (fun s1 hp h' hk => ?_))
    · obtain ⟨q1, q2, q3, ⟨acc, c, q4, hasz⟩, q5⟩ := hv
      show wpAny _ A.in1 (updateSeq S (·.push v) >>= _) _ _ _
      refine wpAny_bind ?_
      refine wpAny_updateSeq q4 rfl (wpAny_pure ⟨plainId_quiet F.plain_extend_loop _, ?_⟩) (Nat.le_of_lt hasz) (by show (acc.push v).size ≤ sizeLine + 1; rw [Array.size_push]; omega)
      have keep3 : ∀ b o, b ≠ S → s1.heap.get? b = some o → (s1.heap.update S (Obj.mapSeq (·.push v))).get? b = some o := fun b o hbS e => (Heap.get?_update_other _ _ (Ne.symm hbS)).trans e
      refine ih { s1.setGen g gs' with heap := s1.heap.update S (Obj.mapSeq (·.push v)) } ?_ ?_ ⟨gs', setGen_at hsz, ?_⟩
      · obtain ⟨o, nm, qn, ho, r⟩ := q2
        exact ⟨o, nm, qn, keep3 a o (Ne.symm hSa) ho, r⟩
      · obtain ⟨mc, hns, hnn⟩ := q1
        exact ⟨mc, hns.at' fun o e => keep3 _ o (Ne.symm hSc) e, hnn⟩
      · exact q5 _ (Slept.push q4 (allBare_setGen (s := s1.setGen g gs') (allBare_setGen q3 hb) rfl))
    · exact wpAny_pure (hL s1 _ hp rfl ⟨.finished, rfl, rfl⟩ hk)

/-- what a made generator hands over to a collecting consumer -/
def FeedL (X : Cx) (pins : List (Addr × Obj)) (σ : L2.St) (j : Nat) (QE : List V → Hp → Prop) (a : Addr) (g : Nat) (s5 : Shared) : Prop :=
  s5.heap.IsGen a g ∧ s5.heap.NoLimit ∧ AllBare s5.gens ∧ a < s5.heap.objs.size ∧ ∃ gs, s5.gens[g]? = some gs ∧ ∀ A S s' c, A.handled = none → A.frames = some X.stack → (∀ env, RoomG j (A.deeper env)) →
    s5.heap.objs.size ≤ S → s'.heap.get? S = some (lstObj #[] c) → Quiet s5 s' → ∃ n, gs.Goes (model X.prog X.w) A (RB (LastL X pins σ S QE)) (YL a g S) n (.send .none) s'

theorem collect_gen {X : Cx} {pins : List (Addr × Obj)} {σ : L2.St} {j : Nat} {QE : List V → Hp → Prop} {a : Addr} {g : Nat} {s : Shared} {E : Value → Shared → Prop} {Q : List Value → Shared → Prop}
    (hh : A.handled = none) (hd : A.depth < recursionLimit) (hF : A.frames = some X.stack) (hR : ∀ env, RoomG j (A.in1.in1.deeper env)) (f : FeedL X pins σ j QE a g s)
    (hQ : ∀ us ys H s', Vals ys us → Inv X pins σ H s' → QE ys H → Q us s') : wpAny (model X.prog X.w) A (collect (.ref a)) Q E s := by
  obtain ⟨hg, hl, hb, hlt, gs, hgs, hgo⟩ := f
  have hSa : s.heap.objs.size ≠ a := Nat.ne_of_gt hlt
  have hcl : cStatics < s.heap.objs.size := let ⟨_, hn, _⟩ := hl; hn.lt
  have hSc : s.heap.objs.size ≠ cStatics := Nat.ne_of_gt hcl
  unfold collect
  refine wpAny_bind (wpAny_runValue (codeAny_builtin F.entry_proto_collect ?_))
  rw [Around.under_plainId F.plain_proto_collect _]
  show wpAny _ A.in1 (newList [] >>= fun l => again (.builtin "list.__iadd__" ⟨[l, .ref a], []⟩)) _ _ s
  refine wpAny_bind (wpAny_newObj_type ?_)
  refine wpAny_pure ⟨plainId_quiet F.plain_list_iadd _, codeAny_builtin F.entry_list_iadd ?_⟩
  rw [Around.under_plainId F.plain_list_iadd _]
  have k1 : ∀ b o, s.heap.get? b = some o → (s.heap.push { cls := .type "list", data := .seq ([] : List Value).toArray }).get? b = some o := fun b o e => Heap.get?_push_of_some _ e
  have gty : ∀ {h : Heap}, (∀ b o, s.heap.get? b = some o → h.get? b = some o) → h.IsGen a g := fun {h} q => hg.keeps q
  show wpAny _ A.in1 (Builtin.List.listExtendWith (.ref s.heap.objs.size) (.ref a) (.ref s.heap.objs.size)) _ _ _
  unfold Builtin.List.listExtendWith
  refine wpAny_bind (wpAny_typeOf (Heap.IsGen.typeIs (s := { s with heap := _ }) (gty k1)) ?_)
  have h1 : Builtin.List.listSameRef (.ref s.heap.objs.size) (.ref a) = false := by simp [Builtin.List.listSameRef, hSa]
  have h2 : (Value.type "generator" == Value.type "list") = false := by decide
  have h3 : (Value.type "generator" == Value.type "tuple") = false := by decide
  simp only [h1, h2, h3, Bool.or_false, Bool.false_eq_true, if_false]
  refine wpAny_bind (wpAny_pyIter_gen (s := { s with heap := _ }) (gty k1) ?_)
  refine wpAny_bind (wpAny_holding ?_)
  unfold Builtin.List.listLengthHint
  refine wpAny_bind (wpAny_specialOf (Heap.IsGen.typeIs (s := { s with heap := _ }) (gty k1)) F.gen_no_len ?_)
  show wpAny _ A.in1 (specialOf (Value.ref a) (Str.ofString "__length_hint__") >>= _) _ _ _
  refine wpAny_bind (wpAny_specialOf (Heap.IsGen.typeIs (s := { s with heap := _ }) (gty k1)) F.gen_no_hint ?_)
  refine wpAny_pure ?_
  show wpAny _ A.in1 (rule "list.extend.makes-room" >>= fun _ => Builtin.List.listTouch (.ref s.heap.objs.size) >>= fun _ => again (.builtin "list.extend.loop" ⟨[.ref s.heap.objs.size, .ref a, .ref s.heap.objs.size], []⟩)) _ _ _
  refine wpAny_bind (wpAny_rule ?_)
  have hS1 : (s.heap.push { cls := .type "list", data := .seq ([] : List Value).toArray }).get? s.heap.objs.size = some { cls := .type "list", data := .seq ([] : List Value).toArray } := Heap.get?_push_size _ rfl
  refine wpAny_bind ?_
  show wpAny _ A.in1 (updateSeq s.heap.objs.size (·.push .none) >>= fun _ => updateSeq s.heap.objs.size (·.pop)) _ _ _
  refine wpAny_bind (wpAny_updateSeq hS1 rfl ?_)
  have hS2 := Heap.get?_update_self (Obj.mapSeq (·.push Value.none)) hS1 rfl
  refine wpAny_updateSeq (hz := by seq_fits) hS2 rfl ?_
  have hS3 := Heap.get?_update_self (Obj.mapSeq (·.pop)) hS2 rfl
  have up : ∀ (h : Heap) (f : Obj → Obj), (∀ b o, s.heap.get? b = some o → h.get? b = some o) → ∀ b o, s.heap.get? b = some o → (h.update s.heap.objs.size f).get? b = some o := fun h f q b o e =>
    (Heap.get?_update_other _ _ (Ne.symm (Nat.ne_of_lt (Heap.lt_size e)))).trans (q b o e)
  have k3 := up _ (Obj.mapSeq (·.pop)) (up _ (Obj.mapSeq (·.push Value.none)) k1)
  obtain ⟨n, hn⟩ := hgo A.in1.in1 s.heap.objs.size ({ s with heap := _ } |>.setGen g .running) _ hh hF hR (Nat.le_refl _) hS3 ⟨rfl, allBare_setGen (s := { s with heap := _ }) hb rfl, k3⟩
  refine wpAny_pure ⟨plainId_quiet F.plain_extend_loop _, ?_⟩
  refine fill_loop (P := X.prog) (w := X.w) (A := A) (g := g) (Last := LastL X pins σ s.heap.objs.size QE) hh hd hSa hSc (fun s1 s2 h os hgn k => ?_) n _ (gty k3) (hl.keeps k3) ⟨gs, hgs, hn⟩
  obtain ⟨ys, acc, c, H, e1, rv, I, _, q⟩ := h
  obtain ⟨x, eg, hx⟩ := hgn
  have I2 := quiet_inv I ⟨os, by rw [eg]; exact allBare_setGen I.bare hx, k⟩
  show wpAny _ A (load s.heap.objs.size >>= _) _ _ s2
  refine wpAny_bind (wpAny_load (k _ _ e1) ?_)
  exact wpAny_pure (hQ _ ys H s2 rv I2 q)
end
end Gx

namespace Gx
open PySem PySem.Spec PyProof.Rows L2 GenW Gr
section
variable {X : Cx} {pins : List (Addr × Obj)} {σ : L2.St} {H : Hp} {s : Shared}
theorem gen_madeL {c P : Addr} {elt tg iter : Expr} {ifs : List Expr} {scope : Scope} {gpos : Pos} {own : List (Str × Nat)} {wi : TI} {gt : TG} {tt : TT} {te : TE} {j : Nat} {Q' : Value → Shared → Prop} {QE : List V → Hp → Prop}
    (hr : RoomG (j + 1) X.A) (hN : X.N.Nodup) (TB : LamX.TabB X.base X.mg c P) (hcode : X.env.code = .ref c) (S : GScp X.N X.env.scope scope own) (hi : PI X tg iter wi)
    (hp : GParts X j scope tg ifs elt gt tt te) (hs : ∀ v, genFold iter X.env v = pure v) (I : Inv X pins σ H s)
    (h : wi σ H fun J H1 => TabG H1 P ∧ ∀ H2, Tabbed P H1 H2 → TurnL J gt tt te (own.map (·.2)) σ QE H2)
    (hQ : ∀ a g s5, FeedL X pins σ j QE a g s5 → Q' (.ref a) s5) :
    wpAny (model X.prog X.w) X.A (eval (.GeneratorExp elt [⟨tg, iter, ifs, 0⟩] scope gpos) X.env) Q' X.xe s := by
  have hfree : ∀ y ∈ scope.names, y.2 = .free → ∃ c, X.env.cells.lookup y.1 = some c := fun y hy e => by
    rcases S.blk.free y hy e with k | k
    · exact I.ok.has _ (.inl k)
    · exact I.ok.has _ (.inr k)
  refine wpAny_GeneratorExp_make S.co (closure_ok hfree) S.cell S.dot S.blk.kind (by have := hr.dp; omega) ?_ hs
  refine thn (hi.run pins s σ H _ I h) fun xv s1 h1 => thn h1 fun itv s2 h2 => ?_
  obtain ⟨it, fp, tn, J, H2, rfl, I2, T, st2, f2, ⟨ps, hT, htr⟩, hR⟩ := h2
  refine ⟨I2.nolimit, ?_⟩
  refine code_ok I2 TB hcode hT htr fun code H3 h3 tk I3 hTb kp3 sz3 => ?_
  refine bltn_ok I3 TB ?_
  obtain ⟨W, ⟨m0, w0⟩, turn⟩ := hR H3 hTb
  have nfpP : ∀ b ∈ fp, b ≠ P := fun b hb e => by
    have := (f2 b hb).1
    rw [e, hT] at this
    cases this
  have f3 : ∀ b ∈ fp, FpOk X pins H3 b := fun b hb => ⟨by rw [hTb.2 b (nfpP b hb)]; exact (f2 b hb).1, (f2 b hb).2⟩
  have st3 : tn 0 h3 := T.keep _ _ _ st2 fun b hb o e => kp3 b o (nfpP b hb) e
  have lt3 : ∀ b ∈ fp, b < h3.objs.size := fun b hb => by
    obtain ⟨o, e, _⟩ := T.obj _ _ st3 b hb
    exact Heap.lt_size e
  intro h4 hn4 hs4
  have sz4 : h4.objs.size = h3.objs.size + 1 := by rw [hs4.1]; exact Heap.size_push ..
  have kp4 : ∀ b o, h3.get? b = some o → h4.get? b = some o := fun b o e => hs4.extBut b o (Nat.ne_of_lt (Heap.lt_size e)) (Heap.get?_push_of_some _ e)
  refine hQ h4.objs.size s2.gens.size _ ⟨⟨_, _, _, Heap.get?_push_size _ rfl, rfl, rfl, rfl⟩, ?_, AllBare.push I2.bare rfl, ?_, _, Array.getElem?_push_size .., ?_⟩
  · exact I3.nolimit.keeps fun b o e => Heap.get?_push_of_some _ (kp4 b o e)
  · show h4.objs.size < (h4.push _).objs.size
    rw [Heap.size_push]
    exact Nat.lt_succ_self _
  intro A Sx s' cS hA hF hRm hSz hSe hq
  refine ⟨m0 + 1, rfl, ?_⟩
  have hSz' : h4.objs.size < Sx := by
    have q : (h4.push _).objs.size ≤ Sx := hSz
    rw [Heap.size_push] at q
    exact q
  have I5 := gen_inv (code := code) (go := { cls := .type "generator", data := .fields #[.int s2.gens.size 0, .str "<genexpr>" (tk + 1), .str (X.env.qual ++ "<genexpr>") (tk + 1 + 1)] })
    (g' := s2.gens.push (.fresh (.compStart (.GeneratorExp elt [⟨tg, iter, ifs, 0⟩] scope gpos) 0 (.ref it) .none (genEnv scope (cloFrom X.env.cells scope.names []) h3.objs.size code builtinsNs X.env)))) (d' := s2.drawn) (t' := tk + 1 + 1 + 1)
    I3 hA hF S hN (fun b hb => ⟨f3 b hb, lt3 b hb⟩) rfl hn4 hs4 (fun v e => by cases e) (AllBare.push I2.bare rfl) (fun h => Heap.get?_push_size _ rfl)
  have hS5 : (h4.push { cls := .type "generator", data := .fields #[.int s2.gens.size 0, .str "<genexpr>" (tk + 1), .str (X.env.qual ++ "<genexpr>") (tk + 1 + 1)] }).objs.size ≤ Sx := hSz
  have fr := I5.fpOk (H' := H3) (b := Sx) hS5 (I5.hok.fresh hS5)
  have I6 := quiet_inv I5 hq
  have G6 : GI _ Sx [] [] _ H3 s' := ⟨#[], cS, .nil, I6.pins_of (pins' := [(Sx, lstObj #[] cS)]) fun p hp => by
    have e : p = (Sx, lstObj #[] cS) := by simpa using hp
    subst e
    exact ⟨hSe, fr.1, fr.2.1, fr.2.2.1, fun v z => by cases z⟩⟩
  have st6 : tn 0 s'.heap := T.keep _ _ _ st3 fun b hb o e => hq.keep b o (Heap.get?_push_of_some _ (kp4 b o e))
  have hap : Apart (gcx X A _ H3 (genEnv scope (cloFrom X.env.cells scope.names []) h3.objs.size code builtinsNs X.env) fp [(h4.objs.size, { cls := .type "generator", data := .fields #[.int s2.gens.size 0, .str "<genexpr>" (tk + 1), .str (X.env.qual ++ "<genexpr>") (tk + 1 + 1)] })]) Sx :=
    ⟨by show h3.objs.size ≤ Sx; omega, Ne.symm fr.2.1 |> fun z => Ne.symm z, fr.2.2.2.2.1⟩
  have loop := gen_segL (A := A) (elt := elt) (iter := iter) (scope := scope) (pos := gpos) (gn := s2.gens.size) (QE := QE) (τ := σ) (vs := own.map (·.2)) (S := Sx) S.co I3 f3 (fun b hb => by rw [sz4]; exact Nat.lt_succ_of_lt (lt3 b hb)) hSz' hap (fun h e => ⟨_, _, _, e, rfl, rfl, rfl⟩) T
    (hp.g A _ _ _ _ code fp _ (hRm _)) (hp.t A _ _ _ _ code fp _ (hRm _)) (hp.e A _ _ _ _ code fp _ (hRm _)) turn m0 (m0 + 1) 0 [] s' s' H3 (Nat.lt_succ_self _) w0 G6 st6 (fun b hb => (f3 b hb).1)
  show Seg _ A _ _ _ s' _ ((compStart (.GeneratorExp elt [⟨tg, iter, ifs, 0⟩] scope gpos) 0 (.ref it) .none _).onRaise (leaving _)) [] s'
  unfold compStart
  rw [Sem.onRaise_eq_wrap]
  show Seg _ A _ _ _ s' _ ((ask >>= _).wrap _ _ _ _) [] s'
  refine seg_bind_wrap (wpAny_askSetting ?_)
  split
  · exact seg_again rfl loop
  · refine seg_bind_wrap (wpAny_rule ?_)
    show Seg _ A _ _ _ s' _ ((standAt iter.pos >>= _).wrap _ _ _ _) [] s'
    exact seg_bind_wrap (wpAny_standAt (seg_bind_wrap (T.self _ 0 _ _ _ st6 (seg_again rfl loop))))

/-- tuple(gen) -/
theorem code_tuple_newG {j : Nat} {QE : List V → Hp → Prop} {a : Addr} {g : Nat} {A : Around} {E : Value → Shared → Prop} {Q1 : Value → Shared → Prop} (hh : A.handled = none) (hd : A.depth < recursionLimit) (hF : A.frames = some X.stack) (hR : ∀ env, RoomG j (A.in1.in1.in1.deeper env))
    (f : FeedL X pins σ j QE a g s)
    (h : ∀ us ys H s', Vals ys us → us.length ≤ sizeLine → Inv X pins σ H s' → QE ys H → Q1 (.ref s'.heap.objs.size) { s' with heap := s'.heap.push { cls := .type "tuple", data := .seq us.toArray } }) (hsz : ∀ ys H, QE ys H → ys.length ≤ sizeLine) :
    codeAny (model X.prog X.w) A (.call (.builtin "tuple.__new__") ⟨[.type "tuple", .ref a], []⟩) (wants Q1 E) s := by
  refine codeAny_of_tree ?_
  show wpAny _ A.in1 (do checkBuiltinCall "tuple.__new__" ⟨[.type "tuple", .ref a], []⟩; again (.builtin "tuple.__new__" ⟨[.type "tuple", .ref a], []⟩)) _ _ s
  refine wpAny_bind (wpAny_of_eq (F.newCall_tuple_1 _) (wpAny_pure ⟨plainId_quiet F.plain_tuple_new _, codeAny_builtin F.entry_tuple_new ?_⟩))
  rw [Around.under_plainId F.plain_tuple_new _]
  have hsub := sub_tuple_self
  have hinit := init_tuple_lookup
  have hmh := madeHere_tuple
  have hTI : s.TypeIs (.ref a) "generator" := f.1.typeIs
  wp_walk using wpAny_typeOf hTI, collect_gen (A := A.in1) (X := X) hh hd hF hR f
  intro us ys H s' rv I q
  have hle : us.length ≤ sizeLine := by rw [← rv.length]; exact hsz ys H q
  show wpAny _ _ (Builtin.Tuple.tupleExact us.toArray >>= fun v => ret v) _ _ _
  unfold Builtin.Tuple.tupleExact
  refine wpAny_bind (wpAny_newObj_type ?_ (by show us.toArray.size ≤ sizeLine; simpa using hle))
  exact wpAny_pure (h us ys H s' rv hle I q)
end
end Gx

/-! ### tuples that are made: what stands there is known to the object -/
namespace Fz
open PySem PySem.Spec PyProof.Rows L2
/-- the object of a tuple laid anew -/
abbrev nt (us : List Value) : Obj := { cls := .type "tuple", data := .seq us.toArray }
abbrev fz (us : List Value) (xs : List V) : HO := .frz (nt us) (.tup xs)
/-- wherever it will stand -/
def At (H : Hp) (Q : VK) (xs : List V) : Prop := ∀ p us, H p = none → Q (.ref p) (upd H p (fz us xs))
section
variable {X : Cx} {pins : List (Addr × Obj)} {σ : L2.St} {H : Hp} {s : Shared} {Q : VK}
theorem put {xs : List V} {us : List Value} (I : Inv X pins σ H s) (r : Vals xs us) (z : xs.length ≤ sizeLine) (q : At H Q xs) (k : Nat := s.toks) :
    EP X pins σ Q (.ref s.heap.objs.size) { s with heap := s.heap.push (nt us), toks := k } := by
  have e : (s.heap.push (nt us)).get? s.heap.objs.size = some (nt us) := Heap.get?_push_size _ rfl
  have new : ObjOk X.prog X.w (upd H s.heap.objs.size (fz us xs)) (s.heap.push (nt us)) s.heap.objs.size (fz us xs) := ⟨e, z, us, r, _, e, rfl, _, rfl⟩
  exact ⟨.ref s.heap.objs.size, _, I.laid (t' := k) (fun _ _ g => Heap.get?_push_of_some _ g) (Nat.le_refl _) new, rfl, q _ us (I.hok.fresh (Nat.le_refl _))⟩
variable {es : List Expr} {pos : Pos} {t : TA}
def tTupF (t : TA) : TE := fun σ H Q => t σ H fun xs H1 => xs.length ≤ sizeLine ∧ At H1 Q xs
theorem pe_tupF {k : Nat} (h : PA X es t) : PE X (.Tuple es k pos) (tTupF t) := by
  constructor
  intro pins s σ H Q I hq
  refine wpAny_Tuple_spliced (thn (h.run pos pins s σ H _ I hq) fun us t1 w => ?_)
  obtain ⟨xs, H1, J, r, z, q⟩ := w
  exact ⟨r.length ▸ z, put J r z q⟩
/-- t + u -/
def rCat (K : PySem.W.Frag) : R2 := fun x y H Q => ∃ a b xs ys, x = .ref a ∧ y = .ref b ∧ SqT K H a xs ∧ SqT K H b ys ∧ xs.length + ys.length ≤ sizeLine ∧ (xs = [] → Q (.ref b) H) ∧ (ys = [] → Q (.ref a) H) ∧ At H Q (xs ++ ys)
theorem op_cat : OpR X (binaryOp .Add) (rCat X.K) := by
  rintro pins s σ H x y v u Q I rx ry ⟨a, b, xs, ys, rfl, rfl, ha, hb, hz, q0, q1, q2⟩
  cases rx; cases ry
  obtain ⟨us, ra, pa, _⟩ := I.tuple ha
  obtain ⟨ws, rb, pb, _⟩ := I.tuple hb
  have hz' : us.length + ws.length ≤ sizeLine := by rw [← ra.length, ← rb.length]; exact hz
  cases us with
  | nil =>
    have en := ra.nil_iff.mp rfl
    exact cat_tup0 pa pb ⟨.ref b, H, I, rfl, q0 en⟩
  | cons u0 us0 =>
    refine HT.cat_tup pa pb (fun e => by cases e) (fun e => ⟨.ref a, H, I, rfl, q1 (rb.nil_iff.mp e)⟩) (fun _ => ?_) hz'
    exact put I (ra.append rb) (by rw [List.length_append]; exact hz) q2
/-- t[lo:hi] -/
def rCut (K : PySem.W.Frag) : V → Option Int → Option Int → Hp → VK → Prop := fun x lo hi H Q => ∃ a xs, x = .ref a ∧ SqT K H a xs ∧ (HT.sIx xs.length 0 lo = 0 ∧ HT.sIx xs.length xs.length hi = xs.length → Q (.ref a) H) ∧ At H Q (cutV xs lo hi)
theorem sl_cut : SlR X (rCut X.K) := by
  rintro pins s σ H x v vl vu lo hi sl Q I rx hs pl pu ⟨a, xs, rfl, hx, q1, q2⟩
  cases rx
  obtain ⟨us, r, pt, hz⟩ := I.tuple hx
  have n : us.toArray.size = xs.length := List.size_toArray.trans r.length.symm
  refine ⟨"tuple", _, PyProof.Rows.slot_tuple_getitem.lookup, pt.typeIs, ?_⟩
  by_cases all : HT.sIx xs.length 0 lo = 0 ∧ HT.sIx xs.length xs.length hi = xs.length
  · exact getItem_tuple_whole pt hs pl pu (n.symm ▸ all) ⟨.ref a, H, I, rfl, q1 all⟩
  · refine HT.getItem_tuple_cut pt hs pl pu (n.symm ▸ all) ?_ (n.symm ▸ hz)
    have c := (r.drop (HT.sIx xs.length 0 lo)).take (HT.sIx xs.length xs.length hi - HT.sIx xs.length 0 lo)
    rw [n]
    exact put I c (Nat.le_trans (cutV_length xs lo hi) hz) q2
/-- tuple(l), tuple(t) -/
theorem call_tup : CallR X (.type "tuple") (fun xs H Q => ∃ p ys, xs = [.ref p] ∧ ((SqL X.K H p ys ∧ At H Q ys) ∨ (SqT X.K H p ys ∧ Q (.ref p) H))) := by
  rintro pins s σ H xs us Q I r ⟨p, ys, rfl, h⟩
  obtain ⟨_, rfl, rx⟩ := vals1 r
  cases rx
  rcases h with ⟨hq, q⟩ | ⟨hq, q⟩
  · obtain ⟨us, r', pl, hz⟩ := I.list hq
    refine call_tuple_list pl.isList (fun m kp => ?_) (by rw [List.size_toArray, ← r'.length]; exact hz)
    exact put (I.kept (t' := s.toks) kp) r' hz q
  · obtain ⟨us, r', pl, hz⟩ := I.tuple hq
    exact call_tuple_same pl ⟨.ref p, H, I, rfl, q⟩
end
/-! t * k -/
theorem mul_same (l : Addr) (items : Array Value) (n : Nat) (dd : Option Addr) (sl : Array (Option Value)) (x : Int) (u : Tok) (c0 : (decide (x < -(2 ^ 63)) || decide (x ≥ 2 ^ 63)) = false) (c1 : (items.isEmpty || x == 1) = true) :
    Meets (Builtin.«tuple.__mul__» ⟨[.ref l, .int x u], []⟩) fun _ R s => s.heap.get? l = some { cls := .type "tuple", dict := dd, data := .seq items n, slots := sl } ∧ R (.ok (.ret (Value.ref l))) s := by
  refine .of_wp fun prog w A R s ⟨hl, h⟩ => ?_
  rcases s with ⟨hp, g, d, tk, os⟩
  have f1 := AutoSeq1.idx_int
  wp_walk using wpAny_loadPart' hl
  refine wpAny_ite_false (decide_eq_false (by rw [c0]; exact Bool.false_ne_true)) ?_
  wp_walk using wpAny_loadPart' hl
  exact ⟨_, rfl, h⟩
theorem mul_none (l : Addr) (items : Array Value) (n : Nat) (dd : Option Addr) (sl : Array (Option Value)) (x : Int) (u : Tok) (c0 : (decide (x < -(2 ^ 63)) || decide (x ≥ 2 ^ 63)) = false) (c1 : (items.isEmpty || x == 1) = false) (c2 : (decide (x ≤ 0) || items.isEmpty) = true) :
    Meets (Builtin.«tuple.__mul__» ⟨[.ref l, .int x u], []⟩) fun _ R s => s.heap.get? l = some { cls := .type "tuple", dict := dd, data := .seq items n, slots := sl } ∧
      R (.ok (.ret (Value.ref s.heap.objs.size))) { s with heap := s.heap.push (nt []), toks := s.toks } := by
  refine .of_wp fun prog w A R s ⟨hl, h⟩ => ?_
  rcases s with ⟨hp, g, d, tk, os⟩
  have f1 := AutoSeq1.idx_int
  wp_walk using wpAny_loadPart' hl
  refine wpAny_ite_false (decide_eq_false (by rw [c0]; exact Bool.false_ne_true)) ?_
  wp_walk using wpAny_loadPart' hl
  exact ⟨_, rfl, h⟩
theorem mul_some (l : Addr) (items : Array Value) (n : Nat) (dd : Option Addr) (sl : Array (Option Value)) (x : Int) (u : Tok) (c0 : (decide (x < -(2 ^ 63)) || decide (x ≥ 2 ^ 63)) = false) (c1 : (items.isEmpty || x == 1) = false) (c2 : (decide (x ≤ 0) || items.isEmpty) = false)
    (k1 : ¬ ((items.size : Nat) : Int) * x > (2 ^ 63 - 1) / 8) (k2 : Builtin.Tuple.tupleTooMany (((items.size : Nat) : Int) * x) = false) (ys : List Value) (ey : List.foldl (fun a b => a ++ b) #[] (List.replicate x.toNat items) = ys.toArray) (k3 : ys.length ≤ sizeLine) :
    Meets (Builtin.«tuple.__mul__» ⟨[.ref l, .int x u], []⟩) fun _ R s => s.heap.get? l = some { cls := .type "tuple", dict := dd, data := .seq items n, slots := sl } ∧ R (.ok (.ret (Value.ref s.heap.objs.size))) { s with heap := s.heap.push (nt ys) } := by
  have T := tuple_mulW l items n dd sl x u c0 c1 c2 k1 k2 (by rw [ey, List.size_toArray]; exact k3)
  rw [ey] at T
  exact T
def rMul (K : PySem.W.Frag) : R2 := fun x y H Q => ∃ l k xs, x = .ref l ∧ y = .int k ∧ SqT K H l xs ∧ k ≤ 1000 ∧ -1000 ≤ k ∧ xs.length ≤ 1000 ∧ ((xs = [] ∨ k = 1) → Q (.ref l) H) ∧ At H Q (List.replicate k.toNat xs).flatten
theorem op_mul {X : Cx} : OpR X (binaryOp .Mult) (rMul X.K) := by
  rintro pins s σ H x y v u Q I rx ry ⟨l, k, xs, rfl, rfl, hT, h1, h2, hz, q1, q2⟩
  cases rx
  obtain ⟨t, rfl⟩ := ry
  obtain ⟨us, r, ⟨⟨cls, dd, data, sl⟩, ho, hc, n, hd⟩, hs⟩ := I.tuple hT
  simp only at hc hd
  subst hc hd
  have el : us.length = xs.length := r.length.symm
  have c0 : (decide (k < -(2 ^ 63)) || decide (k ≥ 2 ^ 63)) = false := by simp; omega
  have emp : us.toArray.isEmpty = decide (xs = []) := by
    cases us with
    | nil => rw [r.nil_iff.mp rfl]; rfl
    | cons a b =>
      have ne : xs ≠ [] := fun e => by rw [e] at el; cases el
      rw [decide_eq_false ne]; rfl
  refine wpAny_binaryOp_repeat_ref (T := "tuple") (U := "int") (by decide) ⟨_, ho, rfl⟩ (fun s' => typeIs_int s' k t) noFill_tuple_mul F.fills_int_mul F.slot_int_rmul repeat_tuple F.slot_int_index.lookup
    (call_meets F.slot_int_rmul (typeIs_int s k t) F.entry_int_rmul (F.args_int_rmul_2 _ _) (int_rmul_tuple k t l us.toArray n dd sl) ⟨ho, rfl, ⟨_, ho, rfl⟩, ?_⟩)
  by_cases b1 : xs = [] ∨ k = 1
  · refine call_meets F.slot_tuple_mul ⟨_, ho, rfl⟩ F.entry_tuple_mul (F.args_tuple_mul_2 _ _) (mul_same l us.toArray n dd sl k t c0 ?_) ⟨ho, .ref l, H, I, rfl, q1 b1⟩
    rw [emp]
    rcases b1 with e | e <;> simp [e]
  · have b2 : xs ≠ [] := fun e => b1 (.inl e)
    have b3 : k ≠ 1 := fun e => b1 (.inr e)
    have c1 : (us.toArray.isEmpty || k == 1) = false := by rw [emp]; simp [b2, b3]
    by_cases b4 : k ≤ 0
    · have e0 : k.toNat = 0 := by omega
      rw [e0] at q2
      exact call_meets F.slot_tuple_mul ⟨_, ho, rfl⟩ F.entry_tuple_mul (F.args_tuple_mul_2 _ _) (mul_none l us.toArray n dd sl k t c0 c1 (by simp [b4])) ⟨ho, put I .nil (Nat.zero_le _) q2⟩
    · have w := Nat.mul_le_mul (show k.toNat ≤ 1000 by omega) hz
      have fl : (List.replicate k.toNat us).flatten.length ≤ sizeLine := by
        rw [PyProof.Rows.lm_len_rep_flat, el, sizeLine_eq]
        omega
      have mk : ((us.toArray.size : Nat) : Int) * k ≤ 1000000 := by
        rw [List.size_toArray, el]
        have := Int.mul_le_mul_of_nonneg_right (show ((xs.length : Nat) : Int) ≤ 1000 by omega) (show 0 ≤ k by omega)
        omega
      refine call_meets F.slot_tuple_mul ⟨_, ho, rfl⟩ F.entry_tuple_mul (F.args_tuple_mul_2 _ _) (mul_some l us.toArray n dd sl k t c0 c1 ?_ (by omega) ?_ _ (size_rep us k.toNat) fl) ⟨ho, put I (r.rep k.toNat) ?_ q2⟩
      · rw [emp]; simp [b2, b4]
      · unfold Builtin.Tuple.tupleTooMany
        rw [sizeLine_eq]
        exact decide_eq_false (by omega)
      · rw [(r.rep k.toNat).length]; exact fl
end Fz

namespace Dv
open PySem PySem.Spec PyProof.Rows L2

/-- plain data: tuples by value, objects that change by their number in the store -/
inductive D where
  | non | bl (b : Bool) | int (i : Int) | str (x : Str) | tup (xs : List D) | ref (i : Nat)
/-- what stands in the store: a list (w: it may be written), a dict with keys ints and texts -/
inductive O where
  | lst (w : Bool) (xs : List D) | dk (kvs : List (Key × D))
abbrev Sto := List O

/-- a tuple that has no dict of its own: made by the program (its object is known), or the module's -/
def SqN (K : PySem.W.Frag) (H : Hp) (a : Addr) (xs : List V) : Prop :=
  (∃ o : Obj, H a = some (.frz o (.tup xs)) ∧ o.cls = .type "tuple" ∧ o.dict = none) ∨
    ∃ (o : Obj) (its : Array Value) (n : Nat), K.lookup a = some o ∧ o.cls = .type "tuple" ∧ o.dict = none ∧ o.data = .seq its n ∧ its.size ≤ sizeLine ∧ Vals xs its.toList
theorem SqN.t {K : PySem.W.Frag} {H : Hp} {a : Addr} {xs : List V} (h : SqN K H a xs) : SqT K H a xs := by
  rcases h with ⟨o, h, _⟩ | ⟨o, its, n, h1, h2, _, h3, h4, h5⟩
  · exact .inl (.inr ⟨o, h⟩)
  · exact .inr ⟨o, its, n, h1, h2, h3, h4, h5⟩
mutual
def Rep (K : PySem.W.Frag) (ι : List Addr) (H : Hp) : D → V → Prop
  | .non, v => v = .non
  | .bl b, v => v = .bl b
  | .int i, v => v = .int i
  | .str x, v => v = .str x
  | .tup ds, v => ∃ a vs, v = .ref a ∧ SqN K H a vs ∧ RepL K ι H ds vs
  | .ref i, v => ∃ a, v = .ref a ∧ ι[i]? = some a
def RepL (K : PySem.W.Frag) (ι : List Addr) (H : Hp) : List D → List V → Prop
  | [], vs => vs = []
  | d :: ds, vs => ∃ v r, vs = v :: r ∧ Rep K ι H d v ∧ RepL K ι H ds r
end

/-- a later heap: numbers keep their addresses, tuples and locked things stay -/
structure Le (ι : List Addr) (H : Hp) (ι' : List Addr) (H' : Hp) : Prop where
  ix : ∀ (i : Nat) a, ι[i]? = some a → ι'[i]? = some a
  tup : ∀ a vs, H a = some (.tup vs) → H' a = some (.tup vs)
  frz : ∀ a o u, H a = some (.frz o u) → H' a = some (.frz o u)
theorem Le.refl (ι : List Addr) (H : Hp) : Le ι H ι H := ⟨fun _ _ h => h, fun _ _ h => h, fun _ _ _ h => h⟩
theorem Le.trans {ι ι1 ι2 : List Addr} {H H1 H2 : Hp} (a : Le ι H ι1 H1) (b : Le ι1 H1 ι2 H2) : Le ι H ι2 H2 :=
  ⟨fun i x h => b.ix i x (a.ix i x h), fun x v h => b.tup x v (a.tup x v h), fun x o u h => b.frz x o u (a.frz x o u h)⟩
theorem Le.sn {K : PySem.W.Frag} {ι ι' : List Addr} {H H' : Hp} {a : Addr} {vs : List V} (l : Le ι H ι' H') (h : SqN K H a vs) : SqN K H' a vs := by
  rcases h with ⟨o, h, z⟩ | h
  · exact .inl ⟨o, l.frz _ _ _ h, z⟩
  · exact .inr h
mutual
theorem Rep.mono {K : PySem.W.Frag} {ι ι' : List Addr} {H H' : Hp} (l : Le ι H ι' H') : ∀ (d : D) (v : V), Rep K ι H d v → Rep K ι' H' d v
  | .non, _, h => h
  | .bl _, _, h => h
  | .int _, _, h => h
  | .str _, _, h => h
  | .tup ds, v, h => by
    obtain ⟨a, vs, e, q, r⟩ := h
    exact ⟨a, vs, e, l.sn q, RepL.mono l ds vs r⟩
  | .ref i, v, h => by
    obtain ⟨a, e, q⟩ := h
    exact ⟨a, e, l.ix i a q⟩
theorem RepL.mono {K : PySem.W.Frag} {ι ι' : List Addr} {H H' : Hp} (l : Le ι H ι' H') : ∀ (ds : List D) (vs : List V), RepL K ι H ds vs → RepL K ι' H' ds vs
  | [], _, h => h
  | d :: ds, _, h => by
    obtain ⟨v, r, e, q, z⟩ := h
    exact ⟨v, r, e, Rep.mono l d v q, RepL.mono l ds r z⟩
end
section
variable {K : PySem.W.Frag} {ι : List Addr} {H : Hp}
theorem RepL.len : ∀ {ds : List D} {vs : List V}, RepL K ι H ds vs → ds.length = vs.length
  | [], _, h => by have h : _ = [] := h; subst h; rfl
  | d :: ds, _, h => by
    obtain ⟨v, r, rfl, _, z⟩ := h
    rw [List.length_cons, List.length_cons, RepL.len z]
theorem RepL.get : ∀ {ds : List D} {vs : List V} {i : Nat} {d : D}, RepL K ι H ds vs → ds[i]? = some d → ∃ v, vs[i]? = some v ∧ Rep K ι H d v
  | [], _, i, _, _, e => by simp at e
  | d0 :: ds, _, 0, d, h, e => by
    obtain ⟨v, r, rfl, q, _⟩ := h
    simp at e
    subst e
    exact ⟨v, rfl, q⟩
  | d0 :: ds, _, i + 1, d, h, e => by
    obtain ⟨v, r, rfl, _, z⟩ := h
    obtain ⟨u, h1, h2⟩ := RepL.get (i := i) z (by simpa using e)
    exact ⟨u, by simpa using h1, h2⟩
theorem RepL.app : ∀ {ds es : List D} {vs us : List V}, RepL K ι H ds vs → RepL K ι H es us → RepL K ι H (ds ++ es) (vs ++ us)
  | [], _, _, _, h, z => by have h : _ = [] := h; subst h; exact z
  | d :: ds, _, _, _, h, z => by
    obtain ⟨v, r, rfl, q, w⟩ := h
    exact ⟨v, _, rfl, q, RepL.app w z⟩
theorem RepL.set {d : D} {v : V} (q : Rep K ι H d v) : ∀ {ds : List D} {vs : List V} (i : Nat), RepL K ι H ds vs → RepL K ι H (ds.set i d) (vs.set i v)
  | [], _, _, h => by have h : _ = [] := h; subst h; exact rfl
  | _ :: _, _, 0, h => by
    obtain ⟨u, r, rfl, _, w⟩ := h
    exact ⟨v, r, rfl, q, w⟩
  | _ :: ds, _, i + 1, h => by
    obtain ⟨u, r, rfl, z, w⟩ := h
    exact ⟨u, _, rfl, z, RepL.set q i w⟩
theorem RepL.drop : ∀ {ds : List D} {vs : List V} (n : Nat), RepL K ι H ds vs → RepL K ι H (ds.drop n) (vs.drop n)
  | _, _, 0, h => h
  | [], _, n + 1, h => by have h : _ = [] := h; subst h; exact rfl
  | _ :: _, _, n + 1, h => by
    obtain ⟨u, r, rfl, _, w⟩ := h
    exact RepL.drop n w
theorem RepL.take : ∀ {ds : List D} {vs : List V} (n : Nat), RepL K ι H ds vs → RepL K ι H (ds.take n) (vs.take n)
  | _, _, 0, _ => rfl
  | [], _, n + 1, h => by have h : _ = [] := h; subst h; exact rfl
  | _ :: _, _, n + 1, h => by
    obtain ⟨u, r, rfl, z, w⟩ := h
    exact ⟨u, _, rfl, z, RepL.take n w⟩
theorem RepL.erase : ∀ {ds : List D} {vs : List V} (n : Nat), RepL K ι H ds vs → RepL K ι H (ds.eraseIdx n) (vs.eraseIdx n)
  | [], _, _, h => by have h : _ = [] := h; subst h; exact rfl
  | _ :: _, _, 0, h => by
    obtain ⟨u, r, rfl, _, w⟩ := h
    exact w
  | _ :: _, _, n + 1, h => by
    obtain ⟨u, r, rfl, z, w⟩ := h
    exact ⟨u, _, rfl, z, RepL.erase n w⟩
theorem RepL.one {d : D} {v : V} (q : Rep K ι H d v) : RepL K ι H [d] [v] := ⟨v, [], rfl, q, rfl⟩
theorem RepL.rev : ∀ {ds : List D} {vs : List V}, RepL K ι H ds vs → RepL K ι H ds.reverse vs.reverse
  | [], _, h => by have h : _ = [] := h; subst h; exact rfl
  | d :: ds, _, h => by
    obtain ⟨u, r, rfl, z, w⟩ := h
    rw [List.reverse_cons, List.reverse_cons]
    exact RepL.app (RepL.rev w) (RepL.one z)
end

def ORep (K : PySem.W.Frag) (ι : List Addr) (H : Hp) : O → Addr → Prop
  | .lst true ds, a => ∃ vs, H a = some (.lst vs) ∧ RepL K ι H ds vs
  | .lst false ds, a => ∃ vs, ((∃ o, H a = some (.frz o (.lst vs))) ∨ ∃ (o : Obj) (its : Array Value) (n : Nat), K.lookup a = some o ∧ o.cls = .type "list" ∧ o.dict = none ∧ o.data = .seq its n ∧ its.size ≤ sizeLine ∧ Vals vs its.toList) ∧ RepL K ι H ds vs
  | .dk kvs, a => ∃ ws, H a = some (.dK ws) ∧ kvs.map (·.1) = ws.map (·.1) ∧ RepL K ι H (kvs.map (·.2)) (ws.map (·.2))
/-- it may be written -/
def O.mut : O → Bool
  | .lst b _ => b
  | .dk _ => true

structure SRep (K : PySem.W.Frag) (tabs : List Addr) (ι : List Addr) (S : Sto) (H : Hp) : Prop where
  len : S.length = ι.length
  nd : ∀ (i j : Nat) a oi oj, ι[i]? = some a → ι[j]? = some a → S[i]? = some oi → S[j]? = some oj → oi.mut = true → oj.mut = true → i = j
  obj : ∀ (i : Nat) o a, S[i]? = some o → ι[i]? = some a → ORep K ι H o a
  tab : ∀ P ∈ tabs, Gx.TabG H P

section
variable {K : PySem.W.Frag} {tabs : List Addr} {ι : List Addr} {S : Sto} {H : Hp}
theorem SRep.at (h : SRep K tabs ι S H) {i : Nat} {o : O} (e : S[i]? = some o) : ∃ a, ι[i]? = some a ∧ ORep K ι H o a := by
  have hi : i < ι.length := by rw [← h.len]; exact (List.getElem?_eq_some_iff.mp e).1
  exact ⟨ι[i], List.getElem?_eq_getElem hi, h.obj i o _ e (List.getElem?_eq_getElem hi)⟩
/-- a list is read -/
theorem SRep.list (h : SRep K tabs ι S H) {i : Nat} {w : Bool} {ds : List D} (e : S[i]? = some (.lst w ds)) : ∃ a vs, ι[i]? = some a ∧ SqL K H a vs ∧ RepL K ι H ds vs := by
  obtain ⟨a, ha, q⟩ := h.at e
  cases w with
  | true =>
    obtain ⟨vs, h1, h2⟩ := q
    exact ⟨a, vs, ha, .inl (.inl h1), h2⟩
  | false =>
    obtain ⟨vs, h1 | h1, h2⟩ := q
    · exact ⟨a, vs, ha, .inl (.inr h1), h2⟩
    · exact ⟨a, vs, ha, .inr h1, h2⟩
/-- objects whose own places are kept, stay -/
theorem ORep.stay {ι' : List Addr} {H' : Hp} {o : O} {a : Addr} (l : Le ι H ι' H') (k : o.mut = true → H' a = H a) (h : ORep K ι H o a) : ORep K ι' H' o a := by
  cases o with
  | lst w ds =>
    cases w with
    | true =>
      obtain ⟨vs, h1, h2⟩ := h
      exact ⟨vs, by rw [k rfl]; exact h1, RepL.mono l _ _ h2⟩
    | false =>
      obtain ⟨vs, h1, h2⟩ := h
      refine ⟨vs, ?_, RepL.mono l _ _ h2⟩
      rcases h1 with ⟨o, h1⟩ | h1
      · exact .inl ⟨o, l.frz _ _ _ h1⟩
      · exact .inr h1
  | dk kvs =>
    obtain ⟨ws, h1, h2, h3⟩ := h
    exact ⟨ws, by rw [k rfl]; exact h1, h2, RepL.mono l _ _ h3⟩
theorem ORep.tracked {o : O} {a : Addr} (h : ORep K ι H o a) (m : o.mut = true) : ∃ u, H a = some u ∧ (∀ vs, u ≠ .tup vs) ∧ (∀ o' u', u ≠ .frz o' u') ∧ ∀ ps, u ≠ .tbl ps := by
  cases o with
  | lst w ds =>
    cases w with
    | true =>
      obtain ⟨vs, h1, _⟩ := h
      exact ⟨_, h1, (fun _ z => by cases z), (fun _ _ z => by cases z), fun _ z => by cases z⟩
    | false => cases m
  | dk kvs =>
    obtain ⟨ws, h1, _⟩ := h
    exact ⟨_, h1, (fun _ z => by cases z), (fun _ _ z => by cases z), fun _ z => by cases z⟩
theorem tab_stay {H' : Hp} {P : Addr} (e : H' P = H P) (h : Gx.TabG H P) : Gx.TabG H' P := by
  obtain ⟨ps, h1, h2⟩ := h
  exact ⟨ps, by rw [e]; exact h1, h2⟩
/-- something new that is no object of the store (a tuple) -/
theorem le_upd {p : Addr} {u : HO} (hp : H p = none) : Le ι H ι (upd H p u) :=
  ⟨fun _ _ h => h, fun a vs h => by rw [upd_ne (ne_of_none h hp)]; exact h, fun a o w h => by rw [upd_ne (ne_of_none h hp)]; exact h⟩
theorem SRep.extra (h : SRep K tabs ι S H) {p : Addr} {u : HO} (hp : H p = none) : SRep K tabs ι S (upd H p u) := by
  refine ⟨h.len, h.nd, fun i o a e1 e2 => ?_, fun P hP => ?_⟩
  · refine (h.obj i o a e1 e2).stay (le_upd hp) fun m => ?_
    obtain ⟨w, hw, _⟩ := (h.obj i o a e1 e2).tracked m
    exact upd_ne (ne_of_none hw hp)
  · have hP2 := h.tab P hP
    obtain ⟨ps, h1, _⟩ := id hP2
    exact tab_stay (upd_ne (ne_of_none h1 hp)) hP2
/-- a new object of the store -/
theorem SRep.new (h : SRep K tabs ι S H) {p : Addr} {u : HO} {o : O} (hp : H p = none) (hm : o.mut = true) (ho : ORep K (ι ++ [p]) (upd H p u) o p) :
    SRep K tabs (ι ++ [p]) (S ++ [o]) (upd H p u) ∧ Le ι H (ι ++ [p]) (upd H p u) := by
  have hix : ∀ (i : Nat) a, ι[i]? = some a → (ι ++ [p])[i]? = some a := fun i a e => by
    rw [List.getElem?_append_left (List.getElem?_eq_some_iff.mp e).1]; exact e
  have l : Le ι H (ι ++ [p]) (upd H p u) := ⟨hix, (le_upd (ι := ι) hp).tup, (le_upd (ι := ι) hp).frz⟩
  have cases_i : ∀ {i : Nat} {o' : O} {a : Addr}, (S ++ [o])[i]? = some o' → (ι ++ [p])[i]? = some a → (S[i]? = some o' ∧ ι[i]? = some a) ∨ (i = S.length ∧ o' = o ∧ a = p) := fun {i o' a} e1 e2 => by
    by_cases hi : i < S.length
    · rw [List.getElem?_append_left hi] at e1
      rw [List.getElem?_append_left (by rw [← h.len]; exact hi)] at e2
      exact .inl ⟨e1, e2⟩
    · have hi2 : i < S.length + 1 := by have := (List.getElem?_eq_some_iff.mp e1).1; simpa using this
      have e : i = S.length := by omega
      subst e
      rw [List.getElem?_append_right (Nat.le_refl _)] at e1
      rw [h.len, List.getElem?_append_right (Nat.le_refl _)] at e2
      simp at e1 e2
      exact .inr ⟨rfl, e1.symm, e2.symm⟩
  refine ⟨⟨by simp [h.len], fun i j a oi oj a1 a2 a3 a4 m1 m2 => ?_, fun i o' a e1 e2 => ?_, (h.extra (u := u) hp).tab⟩, l⟩
  · rcases cases_i a3 a1 with ⟨b1, b2⟩ | ⟨b1, b2, b3⟩ <;> rcases cases_i a4 a2 with ⟨c1, c2⟩ | ⟨c1, c2, c3⟩
    · exact h.nd i j a oi oj b2 c2 b1 c1 m1 m2
    · obtain ⟨w, hw, _⟩ := (h.obj i oi a b1 b2).tracked m1
      rw [c3, hp] at hw
      cases hw
    · obtain ⟨w, hw, _⟩ := (h.obj j oj a c1 c2).tracked m2
      rw [b3, hp] at hw
      cases hw
    · rw [b1, c1]
  · rcases cases_i e1 e2 with ⟨b1, b2⟩ | ⟨_, b2, b3⟩
    · refine (h.obj i o' a b1 b2).stay l fun m => ?_
      obtain ⟨w, hw, _⟩ := (h.obj i o' a b1 b2).tracked m
      exact upd_ne (ne_of_none hw hp)
    · subst b2 b3
      exact ho
/-- an object is written -/
theorem SRep.put (h : SRep K tabs ι S H) {i : Nat} {a : Addr} {u : HO} {o o' : O} (e1 : S[i]? = some o) (e2 : ι[i]? = some a) (m : o.mut = true) (m' : o'.mut = true) (ho : ORep K ι (upd H a u) o' a) :
    SRep K tabs ι (S.set i o') (upd H a u) ∧ Le ι H ι (upd H a u) := by
  obtain ⟨w, hw, n1, n2, n3⟩ := (h.obj i o a e1 e2).tracked m
  have l : Le ι H ι (upd H a u) := ⟨fun _ _ z => z, fun b vs z => by
      rw [upd_ne (fun q => by rw [q, hw] at z; exact n1 vs (Option.some.inj z))]; exact z, fun b o u z => by
      rw [upd_ne (fun q => by rw [q, hw] at z; exact n2 o u (Option.some.inj z))]; exact z⟩
  have hi : i < S.length := (List.getElem?_eq_some_iff.mp e1).1
  have cs : ∀ {j : Nat} {oj : O}, (S.set i o')[j]? = some oj → (j = i ∧ oj = o') ∨ (j ≠ i ∧ S[j]? = some oj) := fun {j oj} e => by
    by_cases hj : j = i
    · subst hj
      rw [List.getElem?_set_self hi] at e
      exact .inl ⟨rfl, (Option.some.inj e).symm⟩
    · rw [List.getElem?_set_ne (Ne.symm hj)] at e
      exact .inr ⟨hj, e⟩
  refine ⟨⟨by rw [List.length_set]; exact h.len, fun x y b ox oy a1 a2 a3 a4 m1 m2 => ?_, fun j oj b z1 z2 => ?_, fun P hP => ?_⟩, l⟩
  · rcases cs a3 with ⟨b1, b2⟩ | ⟨b1, b2⟩ <;> rcases cs a4 with ⟨c1, c2⟩ | ⟨c1, c2⟩
    · rw [b1, c1]
    · rw [b1] at a1 ⊢
      exact h.nd i y b o oy a1 a2 e1 c2 m m2
    · rw [c1] at a2 ⊢
      exact h.nd x i b ox o a1 a2 b2 e1 m1 m
    · exact h.nd x y b ox oy a1 a2 b2 c2 m1 m2
  · rcases cs z1 with ⟨b1, b2⟩ | ⟨b1, b2⟩
    · subst b1 b2
      rw [e2] at z2
      cases z2
      exact ho
    · refine (h.obj j oj b b2 z2).stay l fun mj => ?_
      refine upd_ne fun q => b1 ?_
      exact h.nd j i b oj o z2 (by rw [q]; exact e2) b2 e1 mj m
  · have hP2 := h.tab P hP
    obtain ⟨ps, h1, _⟩ := id hP2
    refine tab_stay (upd_ne fun q => ?_) hP2
    rw [q, hw] at h1
    exact n3 ps (Option.some.inj h1)
end
end Dv

namespace Dv
open PySem PySem.Spec PyProof.Rows L2

/-- what a piece of the program comes to: a value, an error of the class with this number, nothing known -/
inductive R (α : Type) where
  | ok (a : α) (S : Sto) | ex (c : Nat) (S : Sto) | no
namespace R
variable {α β : Type}
def bind : R α → (α → Sto → R β) → R β
  | ok a S, f => f a S
  | ex c S, _ => ex c S
  | no, _ => no
def wp : R α → (α → Sto → Prop) → (Nat → Sto → Prop) → Prop
  | ok a S, Q, _ => Q a S
  | ex c S, _, W => W c S
  | no, _, _ => False
theorem wp_bind {x : R α} {f : α → Sto → R β} {Q : β → Sto → Prop} {W : Nat → Sto → Prop} : (x.bind f).wp Q W ↔ x.wp (fun a S => (f a S).wp Q W) W := by
  cases x <;> exact Iff.rfl
theorem wp_mono {x : R α} {Q Q' : α → Sto → Prop} {W W' : Nat → Sto → Prop} (h : x.wp Q W) (hq : ∀ a S, Q a S → Q' a S) (hw : ∀ c S, W c S → W' c S) : x.wp Q' W' := by
  cases x with
  | ok a S => exact hq a S h
  | ex c S => exact hw c S h
  | no => exact h
@[simp] theorem bind_ok {a : α} {S : Sto} {f : α → Sto → R β} : (ok a S).bind f = f a S := id rfl
@[simp] theorem bind_ex {c : Nat} {S : Sto} {f : α → Sto → R β} : (ex c S).bind f = ex c S := id rfl
@[simp] theorem bind_no {f : α → Sto → R β} : (no : R α).bind f = no := id rfl
@[simp] theorem wp_ok {a : α} {S : Sto} {Q : α → Sto → Prop} {W : Nat → Sto → Prop} : (ok a S).wp Q W = Q a S := id rfl
@[simp] theorem wp_ex {c : Nat} {S : Sto} {Q : α → Sto → Prop} {W : Nat → Sto → Prop} : (ex c S).wp Q W = W c S := id rfl
@[simp] theorem wp_no {Q : α → Sto → Prop} {W : Nat → Sto → Prop} : (no : R α).wp Q W = False := id rfl
end R

abbrev Env := List (Option D)
abbrev Fn := Nat → List D → Sto → R D
abbrev Lv := Nat → Fn
abbrev Den := Lv → Env → Sto → R D
abbrev DenT := Lv → Env → Sto → R Bool
abbrev DenA := Lv → Env → Sto → R (List D)
/-- the levels below -/
def Lv.dn (l : Lv) : Lv := fun i => l (i + 1)

/-- where one stands: the written part, the tables of code objects; what is wanted of an error -/
structure Wn where
  K : PySem.W.Frag
  tabs : List Addr
abbrev EXT := Nat → L2.St → Hp → Prop

def ERep (K : PySem.W.Frag) (ι : List Addr) (H : Hp) (ρ : Env) (σ : L2.St) : Prop := ρ.length = σ.length ∧ ∀ (i : Nat) d, ρ[i]? = some (some d) → ∃ v, σ[i]? = some (some v) ∧ Rep K ι H d v
theorem ERep.mono {K : PySem.W.Frag} {ι ι' : List Addr} {H H' : Hp} {ρ : Env} {σ : L2.St} (l : Le ι H ι' H') (h : ERep K ι H ρ σ) : ERep K ι' H' ρ σ :=
  ⟨h.1, fun i d e => by obtain ⟨v, h1, h2⟩ := h.2 i d e; exact ⟨v, h1, Rep.mono l d v h2⟩⟩
theorem ERep.set {K : PySem.W.Frag} {ι : List Addr} {H : Hp} {ρ : Env} {σ : L2.St} {i : Nat} {d : D} {v : V} (h : ERep K ι H ρ σ) (r : Rep K ι H d v) : ERep K ι H (ρ.set i (some d)) (σ.set i (some v)) := by
  refine ⟨by rw [List.length_set, List.length_set]; exact h.1, fun j e hj => ?_⟩
  by_cases hij : i = j
  · subst hij
    by_cases hi : i < ρ.length
    · rw [List.getElem?_set_self hi] at hj
      cases hj
      exact ⟨v, List.getElem?_set_self (by rw [← h.1]; exact hi), r⟩
    · rw [List.getElem?_eq_none (by rw [List.length_set]; omega)] at hj
      cases hj
  · rw [List.getElem?_set_ne hij] at hj
    obtain ⟨u, h1, h2⟩ := h.2 j e hj
    exact ⟨u, by rw [List.getElem?_set_ne hij]; exact h1, h2⟩

section
variable (w : Wn)
def PV (ι : List Addr) (H : Hp) (Q : VK) : D → Sto → Prop := fun x S' => ∀ v H' ι', Le ι H ι' H' → SRep w.K w.tabs ι' S' H' → Rep w.K ι' H' x v → Q v H'
def PB (ι : List Addr) (H : Hp) (Q : Bool → Hp → Prop) : Bool → Sto → Prop := fun b S' => ∀ H' ι', Le ι H ι' H' → SRep w.K w.tabs ι' S' H' → Q b H'
def PL (ι : List Addr) (H : Hp) (Q : List V → Hp → Prop) : List D → Sto → Prop := fun xs S' => ∀ vs H' ι', Le ι H ι' H' → SRep w.K w.tabs ι' S' H' → RepL w.K ι' H' xs vs → Q vs H'
def PX (EX : EXT) (ι : List Addr) (H : Hp) (σ : L2.St) : Nat → Sto → Prop := fun c S' => ∀ H' ι', Le ι H ι' H' → SRep w.K w.tabs ι' S' H' → EX c σ H'
variable {w}
variable {ι ι1 : List Addr} {H H1 : Hp}
theorem PV.mono {Q : VK} {x : D} {S : Sto} (l : Le ι H ι1 H1) (h : PV w ι H Q x S) : PV w ι1 H1 Q x S := fun v H' ι' l' => h v H' ι' (l.trans l')
theorem PB.mono {Q : Bool → Hp → Prop} {x : Bool} {S : Sto} (l : Le ι H ι1 H1) (h : PB w ι H Q x S) : PB w ι1 H1 Q x S := fun H' ι' l' => h H' ι' (l.trans l')
theorem PL.mono {Q : List V → Hp → Prop} {x : List D} {S : Sto} (l : Le ι H ι1 H1) (h : PL w ι H Q x S) : PL w ι1 H1 Q x S := fun v H' ι' l' => h v H' ι' (l.trans l')
theorem PX.mono {EX : EXT} {σ : L2.St} {c : Nat} {S : Sto} (l : Le ι H ι1 H1) (h : PX w EX ι H σ c S) : PX w EX ι1 H1 σ c S := fun H' ι' l' => h H' ι' (l.trans l')
end

/-- the readings -/
def semE (w : Wn) (EX : EXT) (lv : Lv) (d : Den) : TE := fun σ H Q => ∃ ρ S ι, ERep w.K ι H ρ σ ∧ SRep w.K w.tabs ι S H ∧ (d lv ρ S).wp (PV w ι H Q) (PX w EX ι H σ)
def semT (w : Wn) (EX : EXT) (lv : Lv) (d : DenT) : TT := fun σ H Q => ∃ ρ S ι, ERep w.K ι H ρ σ ∧ SRep w.K w.tabs ι S H ∧ (d lv ρ S).wp (PB w ι H Q) (PX w EX ι H σ)
def semA (w : Wn) (EX : EXT) (lv : Lv) (d : DenA) : TA := fun σ H Q => ∃ ρ S ι, ERep w.K ι H ρ σ ∧ SRep w.K w.tabs ι S H ∧ (d lv ρ S).wp (PL w ι H Q) (PX w EX ι H σ)

section
variable {w : Wn} {EX : EXT} {lv : Lv} {σ : L2.St} {H : Hp} {ρ : Env} {S : Sto} {ι : List Addr} {β : Type}
/-- one part, then the rest -/
theorem stepE {d : Den} {k : D → Sto → R β} {Po : List Addr → Hp → β → Sto → Prop} {T : VK} (he : ERep w.K ι H ρ σ) (hs : SRep w.K w.tabs ι S H)
    (mono : ∀ {ι1 H1 b S1}, Le ι H ι1 H1 → Po ι H b S1 → Po ι1 H1 b S1)
    (hw : ((d lv ρ S).bind k).wp (Po ι H) (PX w EX ι H σ))
    (cont : ∀ x S1 v H1 ι1, Le ι H ι1 H1 → SRep w.K w.tabs ι1 S1 H1 → Rep w.K ι1 H1 x v → ERep w.K ι1 H1 ρ σ → (k x S1).wp (Po ι1 H1) (PX w EX ι1 H1 σ) → T v H1) : semE w EX lv d σ H T := by
  refine ⟨ρ, S, ι, he, hs, R.wp_mono (R.wp_bind.mp hw) (fun x S1 h => ?_) fun c S1 h => h⟩
  intro v H1 ι1 l s1 r
  exact cont x S1 v H1 ι1 l s1 r (he.mono l) (R.wp_mono h (fun b S2 q => mono l q) fun c S2 q => q.mono l)
theorem stepT {d : DenT} {k : Bool → Sto → R β} {Po : List Addr → Hp → β → Sto → Prop} {T : Bool → Hp → Prop} (he : ERep w.K ι H ρ σ) (hs : SRep w.K w.tabs ι S H)
    (mono : ∀ {ι1 H1 b S1}, Le ι H ι1 H1 → Po ι H b S1 → Po ι1 H1 b S1)
    (hw : ((d lv ρ S).bind k).wp (Po ι H) (PX w EX ι H σ))
    (cont : ∀ x S1 H1 ι1, Le ι H ι1 H1 → SRep w.K w.tabs ι1 S1 H1 → ERep w.K ι1 H1 ρ σ → (k x S1).wp (Po ι1 H1) (PX w EX ι1 H1 σ) → T x H1) : semT w EX lv d σ H T := by
  refine ⟨ρ, S, ι, he, hs, R.wp_mono (R.wp_bind.mp hw) (fun x S1 h => ?_) fun c S1 h => h⟩
  intro H1 ι1 l s1
  exact cont x S1 H1 ι1 l s1 (he.mono l) (R.wp_mono h (fun b S2 q => mono l q) fun c S2 q => q.mono l)
theorem stepA {d : DenA} {k : List D → Sto → R β} {Po : List Addr → Hp → β → Sto → Prop} {T : List V → Hp → Prop} (he : ERep w.K ι H ρ σ) (hs : SRep w.K w.tabs ι S H)
    (mono : ∀ {ι1 H1 b S1}, Le ι H ι1 H1 → Po ι H b S1 → Po ι1 H1 b S1)
    (hw : ((d lv ρ S).bind k).wp (Po ι H) (PX w EX ι H σ))
    (cont : ∀ x S1 v H1 ι1, Le ι H ι1 H1 → SRep w.K w.tabs ι1 S1 H1 → RepL w.K ι1 H1 x v → ERep w.K ι1 H1 ρ σ → (k x S1).wp (Po ι1 H1) (PX w EX ι1 H1 σ) → T v H1) : semA w EX lv d σ H T := by
  refine ⟨ρ, S, ι, he, hs, R.wp_mono (R.wp_bind.mp hw) (fun x S1 h => ?_) fun c S1 h => h⟩
  intro v H1 ι1 l s1 r
  exact cont x S1 v H1 ι1 l s1 r (he.mono l) (R.wp_mono h (fun b S2 q => mono l q) fun c S2 q => q.mono l)
/-- at the end -/
theorem PV.now {Q : VK} {x : D} {v : V} (h : PV w ι H Q x S) (hs : SRep w.K w.tabs ι S H) (r : Rep w.K ι H x v) : Q v H := h v H ι (Le.refl _ _) hs r
end

/-- weaker readings -/
theorem PE.imp {X : Cx} {e : Expr} {t t' : TE} (h : PE X e t) (i : ∀ σ H Q, t' σ H Q → t σ H Q) : PE X e t' := ⟨fun pins s σ H Q I q => h.run pins s σ H Q I (i σ H Q q)⟩
theorem PT.imp {X : Cx} {e : Expr} {t t' : TT} (h : PT X e t) (i : ∀ σ H Q, t' σ H Q → t σ H Q) : PT X e t' := ⟨fun pins s σ H Q I q => h.run pins s σ H Q I (i σ H Q q)⟩
theorem PA.imp {X : Cx} {e : List Expr} {t t' : TA} (h : PA X e t) (i : ∀ σ H Q, t' σ H Q → t σ H Q) : PA X e t' := ⟨fun pos pins s σ H Q I q => h.run pos pins s σ H Q I (i σ H Q q)⟩
theorem PS.imp {X : Cx} {e : Stmt} {t t' : TS} (h : PS X e t) (i : ∀ D σ H, t' D σ H → t D σ H) : PS X e t' := ⟨fun pins s σ H D I q => h.run pins s σ H D I (i D σ H q)⟩
theorem PSs.imp {X : Cx} {e : List Stmt} {t t' : TS} (h : PSs X e t) (i : ∀ D σ H, t' D σ H → t D σ H) : PSs X e t' := ⟨fun pins s σ H D I q => h.run pins s σ H D I (i D σ H q)⟩

/-! ### values -/
/-- an operation on two values, by data -/
abbrev Op2 := D → D → Sto → R D
def rOp (w : Wn) (o : Op2) : R2 := fun x y H Q => ∃ S ι d1 d2, SRep w.K w.tabs ι S H ∧ Rep w.K ι H d1 x ∧ Rep w.K ι H d2 y ∧ (o d1 d2 S).wp (PV w ι H Q) (fun _ _ => False)
abbrev OpN := List D → Sto → R D
def rCl (w : Wn) (o : OpN) : List V → Hp → VK → Prop := fun xs H Q => ∃ S ι ds, SRep w.K w.tabs ι S H ∧ RepL w.K ι H ds xs ∧ (o ds S).wp (PV w ι H Q) (fun _ _ => False)
abbrev Op1 := D → Sto → R D
def rU1 (w : Wn) (o : Op1) : V → Hp → VK → Prop := fun x H Q => ∃ S ι d, SRep w.K w.tabs ι S H ∧ Rep w.K ι H d x ∧ (o d S).wp (PV w ι H Q) (fun _ _ => False)

/-- no error comes from it -/
def quiet {α : Type} (x : R α) : R α := match x with
  | .ok a S => .ok a S
  | _ => .no
def dOp (o : Op2) (a b : Den) : Den := fun lv ρ S => (a lv ρ S).bind fun x S1 => (b lv ρ S1).bind fun y S2 => quiet (o x y S2)
theorem quiet_wp {α : Type} {x : R α} {Q : α → Sto → Prop} {W W' : Nat → Sto → Prop} (h : (quiet x).wp Q W) : x.wp Q W' := by
  cases x with
  | ok a S => exact h
  | ex c S => exact False.elim h
  | no => exact h
theorem sem_op {w : Wn} {EX : EXT} {lv : Lv} {o : Op2} {a b : Den} {σ : L2.St} {H : Hp} {Q : VK} (h : semE w EX lv (dOp o a b) σ H Q) : tOp (rOp w o) (semE w EX lv a) (semE w EX lv b) σ H Q := by
  obtain ⟨ρ, S, ι, he, hs, hw⟩ := h
  refine stepE (Po := fun ι H => PV w ι H Q) he hs (fun l q => q.mono l) hw fun x S1 v H1 ι1 l1 s1 r1 e1 h1 => ?_
  refine stepE (Po := fun ι H => PV w ι H Q) e1 s1 (fun l q => q.mono l) h1 fun y S2 u H2 ι2 l2 s2 r2 e2 h2 => ?_
  exact ⟨S2, ι2, x, y, s2, Rep.mono l2 x v r1, r2, quiet_wp h2⟩
section
variable {X : Cx} {w : Wn} {EX : EXT} {lv : Lv} {a b : Expr} {da db : Den} {pos : Pos}
theorem pd_op {op : Operator} {o : Op2} (ho : OpR X (binaryOp op) (rOp w o)) (ha : PE X a (semE w EX lv da)) (hb : PE X b (semE w EX lv db)) : PE X (.BinOp a op b pos) (semE w EX lv (dOp o da db)) :=
  PE.imp (pe_op ho ha hb) fun _ _ _ h => sem_op h
theorem pd_cmp {op : CmpOp} {o : Op2} (ho : OpR X (compareOp op) (rOp w o)) (ha : PE X a (semE w EX lv da)) (hb : PE X b (semE w EX lv db)) (hm : behindInMarks op b = false) : PE X (.Compare a [op] [b] pos) (semE w EX lv (dOp o da db)) :=
  PE.imp (pe_cmpR ho ha hb hm) fun _ _ _ h => sem_op h
theorem pd_ix {o : Op2} (hr : IxR X (rOp w o)) (ha : PE X a (semE w EX lv da)) (hb : PE X b (semE w EX lv db)) (hs : PlainIx b) : PE X (.Subscript a b pos) (semE w EX lv (dOp o da db)) :=
  PE.imp (pe_ix hr ha hb hs) fun _ _ _ h => sem_op h
def dUn (o : Op1) (a : Den) : Den := fun lv ρ S => (a lv ρ S).bind fun x S1 => quiet (o x S1)
theorem pd_un {op : UnaryOp} {o : Op1} (ho : UnR X (unaryOp op) (rU1 w o)) (ha : PE X a (semE w EX lv da)) : PE X (.UnaryOp op a pos) (semE w EX lv (dUn o da)) := by
  refine PE.imp (pe_un ho ha) fun σ H Q h => ?_
  obtain ⟨ρ, S, ι, he, hs, hw⟩ := h
  refine stepE (Po := fun ι H => PV w ι H Q) he hs (fun l q => q.mono l) hw fun x S1 v H1 ι1 l1 s1 r1 e1 h1 => ?_
  exact ⟨S1, ι1, x, s1, r1, quiet_wp h1⟩
/-! ### names, constants -/
def dVar (i : Nat) : Den := fun _ ρ S => match ρ[i]? with
  | some (some d) => .ok d S
  | _ => .no
theorem pd_var {i : Nat} {x : Str} (hN : X.N[i]? = some x) (hv : Vis X.env.scope x) (hd : (x == ("__debug__" : Str)) = false) (hcd : (x == ("__classdict__" : Str)) = false) : PE X (.Name x pos) (semE w EX lv (dVar i)) := by
  refine PE.imp (pe_var hN hv hd hcd) fun σ H Q h => ?_
  obtain ⟨ρ, S, ι, he, hs, hw⟩ := h
  unfold dVar at hw
  split at hw
  · rename_i d e
    obtain ⟨v, h1, h2⟩ := he.2 i d e
    exact ⟨v, h1, PV.now hw hs h2⟩
  · exact hw.elim
def dC (d : D) : Den := fun _ _ S => .ok d S
theorem pd_c {e : Expr} {d : D} {v : V} (h : PE X e (tC v)) (r : ∀ ι H, Rep w.K ι H d v) : PE X e (semE w EX lv (dC d)) := by
  refine PE.imp h fun σ H Q h => ?_
  obtain ⟨ρ, S, ι, he, hs, hw⟩ := h
  exact PV.now hw hs (r ι H)
/-! ### arguments, displays -/
def dNil : DenA := fun _ _ S => .ok [] S
def dCons (a : Den) (r : DenA) : DenA := fun lv ρ S => (a lv ρ S).bind fun x S1 => (r lv ρ S1).bind fun xs S2 => .ok (x :: xs) S2
theorem pd_nil : PA X [] (semA w EX lv dNil) := by
  refine PA.imp pa_nil fun σ H Q h => ?_
  obtain ⟨ρ, S, ι, he, hs, hw⟩ := h
  exact hw [] H ι (Le.refl _ _) hs rfl
theorem pd_cons {es : List Expr} {r : DenA} (ha : PE X a (semE w EX lv da)) (hr : PA X es (semA w EX lv r)) (hst : starEach (a :: es) X.env = (false, eval a X.env) :: starEach es X.env) : PA X (a :: es) (semA w EX lv (dCons da r)) := by
  refine PA.imp (pa_cons ha hr hst) fun σ H Q h => ?_
  obtain ⟨ρ, S, ι, he, hs, hw⟩ := h
  refine stepE (Po := fun ι H => PL w ι H Q) he hs (fun l q => q.mono l) hw fun x S1 v H1 ι1 l1 s1 r1 e1 h1 => ?_
  refine stepA (Po := fun ι H => PL w ι H Q) e1 s1 (fun l q => q.mono l) h1 fun y S2 u H2 ι2 l2 s2 r2 e2 h2 => ?_
  exact h2 (v :: u) H2 ι2 (Le.refl _ _) s2 ⟨v, u, rfl, Rep.mono l2 x v r1, r2⟩
/-- what is laid anew stays below this -/
abbrev mx : Nat := 1000000
theorem mx_le {n : Nat} (h : n ≤ mx) : n ≤ sizeLine := Nat.le_trans h (by decide)
theorem mx_lt {n : Nat} (h : n < mx) : n < sizeLine := Nat.lt_of_lt_of_le h (by decide)
def dTup (a : DenA) : Den := fun lv ρ S => (a lv ρ S).bind fun xs S1 => if xs.length ≤ mx then .ok (.tup xs) S1 else .no
def dLst (a : DenA) : Den := fun lv ρ S => (a lv ρ S).bind fun xs S1 => if xs.length ≤ mx then .ok (.ref S1.length) (S1 ++ [.lst true xs]) else .no
theorem new_lst {ι : List Addr} {S : Sto} {H : Hp} {p : Addr} {xs : List D} {vs : List V} (hs : SRep w.K w.tabs ι S H) (hp : H p = none) (r : RepL w.K ι H xs vs) :
    SRep w.K w.tabs (ι ++ [p]) (S ++ [.lst true xs]) (upd H p (.lst vs)) ∧ Le ι H (ι ++ [p]) (upd H p (.lst vs)) ∧ Rep w.K (ι ++ [p]) (upd H p (.lst vs)) (.ref S.length) (.ref p) := by
  have hix : ∀ (i : Nat) a, ι[i]? = some a → (ι ++ [p])[i]? = some a := fun i a e => by
    rw [List.getElem?_append_left (List.getElem?_eq_some_iff.mp e).1]; exact e
  have l : Le ι H (ι ++ [p]) (upd H p (.lst vs)) := ⟨hix, (le_upd (ι := ι) hp).tup, (le_upd (ι := ι) hp).frz⟩
  obtain ⟨h1, h2⟩ := hs.new (u := .lst vs) (o := .lst true xs) hp rfl ⟨vs, upd_same, RepL.mono l _ _ r⟩
  exact ⟨h1, h2, p, rfl, by rw [hs.len, List.getElem?_append_right (Nat.le_refl _)]; simp⟩
theorem pd_tup {es : List Expr} {k : Nat} {r : DenA} (h : PA X es (semA w EX lv r)) : PE X (.Tuple es k pos) (semE w EX lv (dTup r)) := by
  refine PE.imp (Fz.pe_tupF h) fun σ H Q h => ?_
  obtain ⟨ρ, S, ι, he, hs, hw⟩ := h
  refine stepA (Po := fun ι H => PV w ι H Q) he hs (fun l q => q.mono l) hw fun x S1 v H1 ι1 l1 s1 r1 e1 h1 => ?_
  by_cases hx : x.length ≤ mx
  · rw [if_pos hx] at h1
    refine ⟨by rw [← r1.len]; exact mx_le hx, fun p us hp => ?_⟩
    have l2 := le_upd (ι := ι1) (u := Fz.fz us v) hp
    exact h1 _ _ ι1 l2 (s1.extra hp) ⟨p, v, rfl, .inl ⟨_, upd_same, rfl, rfl⟩, RepL.mono l2 _ _ r1⟩
  · rw [if_neg hx] at h1
    exact h1.elim
theorem pd_lst {es : List Expr} {r : DenA} (h : PA X es (semA w EX lv r)) : PE X (.List es pos) (semE w EX lv (dLst r)) := by
  refine PE.imp (pe_lst h) fun σ H Q h => ?_
  obtain ⟨ρ, S, ι, he, hs, hw⟩ := h
  refine stepA (Po := fun ι H => PV w ι H Q) he hs (fun l q => q.mono l) hw fun x S1 v H1 ι1 l1 s1 r1 e1 h1 => ?_
  by_cases hx : x.length ≤ mx
  · rw [if_pos hx] at h1
    refine ⟨by rw [← r1.len]; exact mx_le hx, fun p hp => ?_⟩
    obtain ⟨s2, l2, r2⟩ := new_lst s1 hp r1
    exact h1 _ _ _ l2 s2 r2
  · rw [if_neg hx] at h1
    exact h1.elim
end
end Dv

namespace Dv
open PySem PySem.Spec PyProof.Rows L2

/-! ### operations by data -/
def addD : Op2
  | .int i, .int j, S => .ok (.int (i + j)) S
  | .str a, .str b, S => if a.length + b.length ≤ mx then .ok (.str (a ++ b)) S else .no
  | .tup xs, .tup ys, S => if xs.length + ys.length ≤ mx then .ok (.tup (xs ++ ys)) S else .no
  | .ref i, .ref j, S => match S[i]?, S[j]? with
    | some (.lst true xs), some (.lst true ys) => if xs.length + ys.length ≤ mx then .ok (.ref S.length) (S ++ [.lst true (xs ++ ys)]) else .no
    | _, _ => .no
  | _, _, _ => .no
def subD : Op2
  | .int i, .int j, S => .ok (.int (i - j)) S
  | _, _, _ => .no
def mulD : Op2
  | .int i, .int j, S => if (-18446744073709551616 < i ∧ i < 18446744073709551616) ∨ (-18446744073709551616 < j ∧ j < 18446744073709551616) then .ok (.int (i * j)) S else .no
  | .ref r, .int k, S => match S[r]? with
    | some (.lst true xs) => if k ≤ 1000 ∧ -1000 ≤ k ∧ xs.length ≤ 1000 then .ok (.ref S.length) (S ++ [.lst true (List.replicate k.toNat xs).flatten]) else .no
    | _ => .no
  | .tup xs, .int k, S => if k ≤ 1000 ∧ -1000 ≤ k ∧ xs.length ≤ 1000 then .ok (.tup (List.replicate k.toNat xs).flatten) S else .no
  | _, _, _ => .no
theorem rep_flat {K : PySem.W.Frag} {ι : List Addr} {H : Hp} {xs : List D} {vs : List V} (l : RepL K ι H xs vs) : ∀ n, RepL K ι H (List.replicate n xs).flatten (List.replicate n vs).flatten
  | 0 => rfl
  | n + 1 => by
    rw [List.replicate_succ, List.replicate_succ, List.flatten_cons, List.flatten_cons]
    exact l.app (rep_flat l n)
def fdivD : Op2
  | .int i, .int j, S => if 0 < j ∧ j < 1073741824 then .ok (.int (i / j)) S else .no
  | _, _, _ => .no
def modD : Op2
  | .int i, .int j, S => if 0 < j then .ok (.int (i % j)) S else .no
  | _, _, _ => .no
def powD : Op2
  | .int i, .int j, S => if 0 ≤ j ∧ j ≤ 1000000 ∧ i.natAbs < 18446744073709551616 then .ok (.int (i ^ j.toNat)) S else .no
  | _, _, _ => .no
def negD : Op1
  | .int i, S => .ok (.int (-i)) S
  | _, _ => .no
def notD : Op1
  | .bl b, S => .ok (.bl (!b)) S
  | _, _ => .no
/-- a list of ints -/
def ints? : List D → Option (List Int)
  | [] => some []
  | .int i :: r => (ints? r).map (i :: ·)
  | _ => none
def ltD : Op2
  | .int i, .int j, S => .ok (.bl (decide (i < j))) S
  | .tup xs, .tup ys, S => match ints? xs, ints? ys with
    | some ns, some ms => .ok (.bl (HT.lexLt ns ms)) S
    | _, _ => .no
  | _, _, _ => .no
def leD : Op2
  | .int i, .int j, S => .ok (.bl (decide (i ≤ j))) S
  | _, _, _ => .no
def gtD : Op2
  | .int i, .int j, S => .ok (.bl (decide (j < i))) S
  | _, _, _ => .no
def geD : Op2
  | .int i, .int j, S => .ok (.bl (decide (j ≤ i))) S
  | _, _, _ => .no
/-- == of plain values -/
def eqS : D → D → Option Bool
  | .non, .non => some true
  | .non, .int _ => some false | .int _, .non => some false | .non, .bl _ => some false | .bl _, .non => some false | .non, .str _ => some false | .str _, .non => some false
  | .int i, .int j => some (decide (i = j)) | .bl i, .bl j => some (decide (i = j)) | .str i, .str j => some (decide (i = j))
  | .int _, .str _ => some false | .str _, .int _ => some false | .bl _, .str _ => some false | .str _, .bl _ => some false
  | _, _ => none
mutual
/-- as data, to a depth -/
def toP (S : Sto) : Nat → D → Option PyData
  | 0, _ => none
  | _ + 1, .non => some .none
  | _ + 1, .bl b => some (.bool b)
  | _ + 1, .int i => some (.int i)
  | _ + 1, .str x => some (.str x)
  | n + 1, .tup ds => (toPs S n ds).map .tuple
  | n + 1, .ref i => match S[i]? with
    | some (.lst _ ds) => (toPs S n ds).map .list
    | _ => none
def toPs (S : Sto) : Nat → List D → Option (List PyData)
  | _, [] => some []
  | 0, _ :: _ => none
  | n + 1, d :: ds => match toP S n d, toPs S n ds with
    | some p, some ps => some (p :: ps)
    | _, _ => none
end
def eqB (d e : D) (S : Sto) : Option Bool := match eqS d e with
  | some b => some b
  | none => match toP S 1000 d, toP S 1000 e with
    | some p, some q => if SeqAt.shaped p = true ∧ SeqAt.shaped q = true then some (PyData.eqv p q) else none
    | _, _ => none
def eqD : Op2 := fun d e S => match eqB d e S with
  | some b => .ok (.bl b) S
  | none => .no
def neD : Op2 := fun d e S => match eqB d e S with
  | some b => .ok (.bl (!b)) S
  | none => .no
def isND : Op2
  | d, .non, S => .ok (.bl (match d with | .non => true | _ => false)) S
  | d, .bl b, S => .ok (.bl (match d with | .bl a => decide (a = b) | _ => false)) S
  | _, _, _ => .no
def isnD : Op2
  | d, .non, S => .ok (.bl (match d with | .non => false | _ => true)) S
  | d, .bl b, S => .ok (.bl (match d with | .bl a => !decide (a = b) | _ => true)) S
  | _, _, _ => .no
/-- the items of a list or a tuple -/
def itemsD (d : D) (S : Sto) : Option (List D) := match d with
  | .tup xs => some xs
  | .ref i => match S[i]? with
    | some (.lst _ xs) => some xs
    | _ => none
  | _ => none
def ixD : Op2 := fun d i S => match itemsD d S, i with
  | some xs, .int k => match atI xs k with
    | some x => .ok x S
    | none => .no
  | _, _ => .no

section
variable {X : Cx} {tabs : List Addr}
theorem opd_sub : OpR X (binaryOp .Sub) (rOp ⟨X.K, tabs⟩ subD) := by
  rintro pins s σ H x y v u Q I rx ry ⟨S, ι, d1, d2, hs, r1, r2, hw⟩
  cases d1 <;> cases d2 <;> first | exact False.elim hw | skip
  cases r1; cases r2
  exact op_sub pins s σ H _ _ v u Q I rx ry ⟨_, _, rfl, rfl, PV.now hw hs rfl⟩
theorem repT {K : PySem.W.Frag} {ι : List Addr} {H : Hp} {p : Addr} {ds : List D} {vs : List V} {us : List Value} (hp : H p = none) (r : RepL K ι H ds vs) : Rep K ι (upd H p (Fz.fz us vs)) (.tup ds) (.ref p) :=
  ⟨p, vs, rfl, .inl ⟨_, upd_same, rfl, rfl⟩, RepL.mono (le_upd hp) _ _ r⟩
theorem repl_nil {K : PySem.W.Frag} {ι : List Addr} {H : Hp} {ds : List D} (r : RepL K ι H ds []) : ds = [] := by
  cases ds with
  | nil => rfl
  | cons d ds => obtain ⟨_, _, e, _⟩ := r; cases e
theorem opd_add : OpR X (binaryOp .Add) (rOp ⟨X.K, tabs⟩ addD) := by
  rintro pins s σ H x y v u Q I rx ry ⟨S, ι, d1, d2, hs, r1, r2, hw⟩
  cases d1 <;> cases d2 <;> first | exact False.elim hw | skip
  · cases r1; cases r2
    exact op_add pins s σ H _ _ v u Q I rx ry ⟨_, _, rfl, rfl, PV.now hw hs rfl⟩
  · cases r1; cases r2
    rename_i a b
    unfold addD at hw
    try dsimp only at hw
    by_cases hz : a.length + b.length ≤ mx
    · rw [if_pos hz] at hw
      exact op_add_str pins s σ H _ _ v u Q I rx ry ⟨_, _, rfl, rfl, mx_le hz, PV.now hw hs rfl⟩
    · rw [if_neg hz] at hw; exact hw.elim
  · rename_i xs ys
    obtain ⟨a, vs, rfl, q1, l1⟩ := r1
    obtain ⟨b, us, rfl, q2, l2⟩ := r2
    unfold addD at hw
    try dsimp only at hw
    by_cases hz : xs.length + ys.length ≤ mx
    · rw [if_pos hz] at hw
      have hz2 : vs.length + us.length ≤ sizeLine := by rw [← l1.len, ← l2.len]; exact mx_le hz
      refine Fz.op_cat pins s σ H _ _ v u Q I rx ry ⟨a, b, vs, us, rfl, rfl, q1.t, q2.t, hz2, fun e => ?_, fun e => ?_, fun p _ hp => ?_⟩
      · subst e
        have e2 := repl_nil l1
        subst e2
        exact PV.now hw hs ⟨b, us, rfl, q2, l2⟩
      · subst e
        have e2 := repl_nil l2
        subst e2
        rw [List.append_nil] at hw
        exact PV.now hw hs ⟨a, vs, rfl, q1, l1⟩
      · exact hw _ _ ι (le_upd hp) (hs.extra hp) (repT hp (l1.app l2))
    · rw [if_neg hz] at hw; exact hw.elim
  · rename_i i j
    obtain ⟨a, rfl, h1⟩ := r1
    obtain ⟨b, rfl, h2⟩ := r2
    unfold addD at hw
    dsimp only at hw
    split at hw
    · rename_i xs ys e1 e2
      by_cases hz : xs.length + ys.length ≤ mx
      · rw [if_pos hz] at hw
        obtain ⟨vs, k1, l1⟩ := hs.obj i _ a e1 h1
        obtain ⟨us, k2, l2⟩ := hs.obj j _ b e2 h2
        refine op_cat pins s σ H _ _ v u Q I rx ry ⟨a, b, vs, us, rfl, rfl, k1, k2, by rw [← l1.len, ← l2.len]; exact mx_le hz, fun p hp => ?_⟩
        obtain ⟨s2, le2, rr⟩ := new_lst (w := ⟨X.K, tabs⟩) hs hp (l1.app l2)
        exact hw _ _ _ le2 s2 rr
      · rw [if_neg hz] at hw; exact hw.elim
    · exact hw.elim
theorem opd_mul : OpR X (binaryOp .Mult) (rOp ⟨X.K, tabs⟩ mulD) := by
  rintro pins s σ H x y v u Q I rx ry ⟨S, ι, d1, d2, hs, r1, r2, hw⟩
  cases d1 <;> cases d2 <;> first | exact False.elim hw | skip
  · cases r1; cases r2
    unfold mulD at hw
    try dsimp only at hw
    split at hw
    · rename_i hc
      exact op_mul pins s σ H _ _ v u Q I rx ry ⟨_, _, rfl, rfl, hc, PV.now hw hs rfl⟩
    · exact hw.elim
  · rename_i xs k
    obtain ⟨a, vs, rfl, q1, l1⟩ := r1
    cases r2
    unfold mulD at hw
    dsimp only at hw
    split at hw
    · rename_i hc
      refine Fz.op_mul pins s σ H _ _ v u Q I rx ry ⟨a, k, vs, rfl, rfl, q1.t, hc.1, hc.2.1, by rw [← l1.len]; exact hc.2.2, fun e => ?_, fun p _ hp => hw _ _ ι (le_upd hp) (hs.extra hp) (repT hp (rep_flat l1 _))⟩
      rcases e with e | e
      · subst e
        have e2 := repl_nil l1
        subst e2
        have e3 : (List.replicate k.toNat ([] : List D)).flatten = [] := by simp
        rw [e3] at hw
        exact PV.now hw hs ⟨a, [], rfl, q1, rfl⟩
      · subst e
        have e3 : (List.replicate (Int.toNat 1) xs).flatten = xs := by simp
        rw [e3] at hw
        exact PV.now hw hs ⟨a, vs, rfl, q1, l1⟩
    · exact hw.elim
  · rename_i r k
    obtain ⟨a, rfl, h1⟩ := r1
    cases r2
    unfold mulD at hw
    dsimp only at hw
    split at hw
    · rename_i xs e1
      split at hw
      · rename_i hc
        obtain ⟨vs, k1, l1⟩ := hs.obj r _ a e1 h1
        have hl : vs.length ≤ 1000 := by rw [← l1.len]; exact hc.2.2
        refine op_rep pins s σ H _ _ v u Q I rx ry ⟨a, k, vs, rfl, rfl, k1, by omega, by omega, ?_, fun p hp => ?_⟩
        · have h9 : k.toNat ≤ 1000 := by omega
          exact mx_le (Nat.le_trans (Nat.mul_le_mul hl h9) (by decide))
        · have rr : ∀ n, RepL X.K ι H (List.replicate n xs).flatten (List.replicate n vs).flatten := fun n => by
            induction n with
            | zero => exact rfl
            | succ n ih =>
              rw [List.replicate_succ, List.replicate_succ, List.flatten_cons, List.flatten_cons]
              exact l1.app ih
          obtain ⟨s2, le2, rr2⟩ := new_lst (w := ⟨X.K, tabs⟩) hs hp (rr k.toNat)
          exact hw _ _ _ le2 s2 rr2
      · exact hw.elim
    · exact hw.elim
theorem opd_fdiv : OpR X (binaryOp .FloorDiv) (rOp ⟨X.K, tabs⟩ fdivD) := by
  rintro pins s σ H x y v u Q I rx ry ⟨S, ι, d1, d2, hs, r1, r2, hw⟩
  cases d1 <;> cases d2 <;> first | exact False.elim hw | skip
  cases r1; cases r2
  unfold fdivD at hw
  try dsimp only at hw
  split at hw
  · rename_i hc
    exact op_fdiv pins s σ H _ _ v u Q I rx ry ⟨_, _, rfl, rfl, hc, PV.now hw hs rfl⟩
  · exact hw.elim
theorem opd_mod : OpR X (binaryOp .Mod) (rOp ⟨X.K, tabs⟩ modD) := by
  rintro pins s σ H x y v u Q I rx ry ⟨S, ι, d1, d2, hs, r1, r2, hw⟩
  cases d1 <;> cases d2 <;> first | exact False.elim hw | skip
  cases r1; cases r2
  unfold modD at hw
  try dsimp only at hw
  split at hw
  · rename_i hc
    exact op_mod pins s σ H _ _ v u Q I rx ry ⟨_, _, rfl, rfl, hc, PV.now hw hs rfl⟩
  · exact hw.elim
theorem opd_pow : OpR X (binaryOp .Pow) (rOp ⟨X.K, tabs⟩ powD) := by
  rintro pins s σ H x y v u Q I rx ry ⟨S, ι, d1, d2, hs, r1, r2, hw⟩
  cases d1 <;> cases d2 <;> first | exact False.elim hw | skip
  cases r1; cases r2
  unfold powD at hw
  try dsimp only at hw
  split at hw
  · rename_i hc
    exact op_pow pins s σ H _ _ v u Q I rx ry ⟨_, _, rfl, rfl, hc, PV.now hw hs rfl⟩
  · exact hw.elim
theorem und_neg : UnR X (unaryOp .USub) (rU1 ⟨X.K, tabs⟩ negD) := by
  rintro pins s σ H x v Q I rx ⟨S, ι, d1, hs, r1, hw⟩
  cases d1 <;> first | exact False.elim hw | skip
  cases r1
  exact un_neg pins s σ H _ v Q I rx ⟨_, rfl, PV.now hw hs rfl⟩
theorem ints_vals {K : PySem.W.Frag} {ι : List Addr} {H : Hp} : ∀ {ds : List D} {ns : List Int} {vs : List V}, ints? ds = some ns → RepL K ι H ds vs → vs = ns.map V.int
  | [], ns, vs, e, r => by
    cases e
    exact r
  | d :: ds, ns, vs, e, r => by
    obtain ⟨v, rr, rfl, q, w⟩ := r
    cases d <;> first | (cases e; done) | skip
    rename_i i
    unfold ints? at e
    obtain ⟨ms, e1, e2⟩ := Option.map_eq_some_iff.mp e
    subst e2
    cases q
    rw [ints_vals e1 w, List.map_cons]
theorem opd_lt (hu : X.A.units < cLine) : OpR X (compareOp .Lt) (rOp ⟨X.K, tabs⟩ ltD) := by
  rintro pins s σ H x y v u Q I rx ry ⟨S, ι, d1, d2, hs, r1, r2, hw⟩
  cases d1 <;> cases d2 <;> first | exact False.elim hw | skip
  · cases r1; cases r2
    exact op_lt pins s σ H _ _ v u Q I rx ry ⟨_, _, rfl, rfl, PV.now hw hs rfl⟩
  · obtain ⟨a, vs, rfl, q1, l1⟩ := r1
    obtain ⟨b, us, rfl, q2, l2⟩ := r2
    unfold ltD at hw
    dsimp only at hw
    split at hw
    · rename_i ns ms e1 e2
      have z1 := ints_vals e1 l1
      have z2 := ints_vals e2 l2
      subst z1 z2
      exact op_ltT hu pins s σ H _ _ v u Q I rx ry ⟨a, b, ns, ms, rfl, rfl, q1.t, q2.t, PV.now hw hs rfl⟩
    · exact hw.elim
theorem opd_gt : OpR X (compareOp .Gt) (rOp ⟨X.K, tabs⟩ gtD) := by
  rintro pins s σ H x y v u Q I rx ry ⟨S, ι, d1, d2, hs, r1, r2, hw⟩
  cases d1 <;> cases d2 <;> first | exact False.elim hw | skip
  cases r1; cases r2
  exact op_gt pins s σ H _ _ v u Q I rx ry ⟨_, _, rfl, rfl, PV.now hw hs rfl⟩
theorem opd_ge : OpR X (compareOp .GtE) (rOp ⟨X.K, tabs⟩ geD) := by
  rintro pins s σ H x y v u Q I rx ry ⟨S, ι, d1, d2, hs, r1, r2, hw⟩
  cases d1 <;> cases d2 <;> first | exact False.elim hw | skip
  cases r1; cases r2
  exact op_ge pins s σ H _ _ v u Q I rx ry ⟨_, _, rfl, rfl, PV.now hw hs rfl⟩
end
end Dv

namespace Dv
open PySem PySem.Spec PyProof.Rows L2
section
variable {X : Cx} {tabs : List Addr}

/-! ### as data -/
mutual
theorem toP_dp {K : PySem.W.Frag} {ι : List Addr} {H : Hp} {S : Sto} (hs : SRep K tabs ι S H) : ∀ (n : Nat) (d : D) (p : PyData) (v : V), toP S n d = some p → Rep K ι H d v → Dp K H v p
  | 0, _, _, _, e, _ => by cases e
  | n + 1, .non, p, v, e, r => by cases e; cases r; exact .non
  | n + 1, .bl b, p, v, e, r => by cases e; cases r; exact .bl b
  | n + 1, .int i, p, v, e, r => by cases e; cases r; exact .int i
  | n + 1, .str x, p, v, e, r => by cases e; cases r; exact .str x
  | n + 1, .tup ds, p, v, e, r => by
    obtain ⟨a, vs, rfl, q, l⟩ := r
    unfold toP at e
    obtain ⟨ps, e1, rfl⟩ := Option.map_eq_some_iff.mp e
    exact .tup q.t (toPs_dp hs n ds ps vs e1 l)
  | n + 1, .ref i, p, v, e, r => by
    obtain ⟨a, rfl, q⟩ := r
    unfold toP at e
    split at e
    · rename_i b ds e0
      obtain ⟨ps, e1, rfl⟩ := Option.map_eq_some_iff.mp e
      obtain ⟨a', vs, ha, hq, l⟩ := hs.list e0
      rw [q] at ha
      cases ha
      exact .lst hq (toPs_dp hs n ds ps vs e1 l)
    · cases e
theorem toPs_dp {K : PySem.W.Frag} {ι : List Addr} {H : Hp} {S : Sto} (hs : SRep K tabs ι S H) : ∀ (n : Nat) (ds : List D) (ps : List PyData) (vs : List V), toPs S n ds = some ps → RepL K ι H ds vs → DpAll K H vs ps
  | n, [], ps, vs, e, r => by
    have r : vs = [] := r
    subst r
    have e2 : ps = [] := by cases n <;> (cases e; rfl)
    subst e2
    exact .nil
  | 0, _ :: _, _, _, e, _ => by cases e
  | n + 1, d :: ds, ps, vs, e, r => by
    obtain ⟨v, rr, rfl, q, l⟩ := r
    unfold toPs at e
    split at e
    · rename_i p qs e1 e2
      cases e
      exact .cons (toP_dp hs n d p v e1 q) (toPs_dp hs n ds qs rr e2 l)
    · cases e
end
theorem eqS_v {K : PySem.W.Frag} {ι : List Addr} {H : Hp} {d e : D} {b : Bool} {x y : V} (h : eqS d e = some b) (r1 : Rep K ι H d x) (r2 : Rep K ι H e y) : scal x y = true ∧ decide (x = y) = b := by
  cases d <;> cases e <;> first | (cases h; done) | skip
  all_goals (cases r1; cases r2; cases h; refine ⟨rfl, ?_⟩; simp)
theorem eqB_or {K : PySem.W.Frag} {ι : List Addr} {H : Hp} {S : Sto} {d e : D} {b : Bool} {x y : V} (hs : SRep K tabs ι S H) (h : eqB d e S = some b) (r1 : Rep K ι H d x) (r2 : Rep K ι H e y) :
    (scal x y = true ∧ decide (x = y) = b) ∨ ∃ p q, Dp K H x p ∧ Dp K H y q ∧ SeqAt.shaped p = true ∧ SeqAt.shaped q = true ∧ PyData.eqv p q = b := by
  unfold eqB at h
  split at h
  · rename_i b' e1
    cases h
    exact .inl (eqS_v e1 r1 r2)
  · split at h
    · rename_i p q e1 e2
      split at h
      · rename_i hc
        cases h
        exact .inr ⟨p, q, toP_dp hs _ _ _ _ e1 r1, toP_dp hs _ _ _ _ e2 r2, hc.1, hc.2, rfl⟩
      · cases h
    · cases h
theorem opd_eq (hu : X.A.units + 64 < cLine) : OpR X (compareOp .Eq) (rOp ⟨X.K, tabs⟩ eqD) := by
  rintro pins s σ H x y v u Q I rx ry ⟨S, ι, d1, d2, hs, r1, r2, hw⟩
  unfold eqD at hw
  split at hw
  · rename_i b e
    rcases eqB_or hs e r1 r2 with ⟨h1, h2⟩ | ⟨p, q, h1, h2, h3, h4, h5⟩
    · exact op_eq pins s σ H x y v u Q I rx ry ⟨h1, by rw [h2]; exact PV.now hw hs rfl⟩
    · exact op_eqD hu pins s σ H x y v u Q I rx ry ⟨p, q, h1, h2, h3, h4, by rw [h5]; exact PV.now hw hs rfl⟩
  · exact hw.elim
theorem opd_ne (hu : X.A.units + 64 < cLine) : OpR X (compareOp .NotEq) (rOp ⟨X.K, tabs⟩ neD) := by
  rintro pins s σ H x y v u Q I rx ry ⟨S, ι, d1, d2, hs, r1, r2, hw⟩
  unfold neD at hw
  split at hw
  · rename_i b e
    rcases eqB_or hs e r1 r2 with ⟨h1, h2⟩ | ⟨p, q, h1, h2, h3, h4, h5⟩
    · exact op_ne pins s σ H x y v u Q I rx ry ⟨h1, by rw [h2]; exact PV.now hw hs rfl⟩
    · exact op_neD hu pins s σ H x y v u Q I rx ry ⟨p, q, h1, h2, h3, h4, by rw [h5]; exact PV.now hw hs rfl⟩
  · exact hw.elim
theorem rep_non {K : PySem.W.Frag} {ι : List Addr} {H : Hp} {d : D} {x : V} (r : Rep K ι H d x) : decide (x = V.non) = (match d with | .non => true | _ => false) := by
  cases d with
  | non => cases r; rfl
  | bl b => cases r; rfl
  | int b => cases r; rfl
  | str b => cases r; rfl
  | tup b => obtain ⟨a, vs, rfl, _⟩ := r; rfl
  | ref b => obtain ⟨a, rfl, _⟩ := r; rfl
theorem opd_isn : OpR X (compareOp .IsNot) (rOp ⟨X.K, tabs⟩ isnD) := by
  rintro pins s σ H x y v u Q I rx ry ⟨S, ι, d1, d2, hs, r1, r2, hw⟩
  cases d2 with
  | non =>
    cases r2
    refine op_notN pins s σ H x _ v u Q I rx ry ⟨rfl, ?_⟩
    rw [rep_non r1]
    cases d1 <;> exact PV.now hw hs rfl
  | bl b =>
    cases r2
    cases (show u = Value.bool b from ry)
    cases d1 with
    | bl a => cases r1; exact op_notBl pins s σ H _ (.bl b) v _ Q I rx rfl ⟨_, _, rfl, rfl, PV.now hw hs rfl⟩
    | non => cases r1; cases (show v = Value.none from rx); exact wpAny_isNot_other rfl (fun z => by cases z) ⟨.bl true, H, I, rfl, PV.now hw hs rfl⟩
    | int i => cases r1; obtain ⟨t, rfl⟩ := rx; exact wpAny_isNot_other rfl (fun z => by cases z) ⟨.bl true, H, I, rfl, PV.now hw hs rfl⟩
    | str i => cases r1; obtain ⟨t, rfl⟩ := rx; exact wpAny_isNot_other rfl (fun z => by cases z) ⟨.bl true, H, I, rfl, PV.now hw hs rfl⟩
    | tup xs => obtain ⟨a, vs, rfl, _⟩ := r1; cases (show v = Value.ref a from rx); exact wpAny_isNot_other rfl (fun z => by cases z) ⟨.bl true, H, I, rfl, PV.now hw hs rfl⟩
    | ref i => obtain ⟨a, rfl, _⟩ := r1; cases (show v = Value.ref a from rx); exact wpAny_isNot_other rfl (fun z => by cases z) ⟨.bl true, H, I, rfl, PV.now hw hs rfl⟩
  | _ => cases d1 <;> exact False.elim hw

/-! ### subscripts -/
theorem itemsD_v {K : PySem.W.Frag} {ι : List Addr} {H : Hp} {S : Sto} {d : D} {xs : List D} {x : V} (hs : SRep K tabs ι S H) (h : itemsD d S = some xs) (r : Rep K ι H d x) :
    ∃ a vs, x = .ref a ∧ RepL K ι H xs vs ∧ ((∃ ys, d = .tup ys ∧ SqN K H a vs) ∨ (∃ i w, d = .ref i ∧ S[i]? = some (.lst w xs) ∧ SqL K H a vs)) := by
  cases d <;> first | (cases h; done) | skip
  · cases h
    obtain ⟨a, vs, rfl, q, l⟩ := r
    exact ⟨a, vs, rfl, l, .inl ⟨_, rfl, q⟩⟩
  · rename_i i
    unfold itemsD at h
    dsimp only at h
    split at h
    · rename_i b ys e
      cases h
      obtain ⟨a, rfl, q⟩ := r
      obtain ⟨a', vs, ha, hq, l⟩ := hs.list e
      rw [q] at ha
      cases ha
      exact ⟨a, vs, rfl, l, .inr ⟨i, b, rfl, e, hq⟩⟩
    · cases h
theorem atI_rep {K : PySem.W.Frag} {ι : List Addr} {H : Hp} {xs : List D} {vs : List V} {k : Int} {x : D} (l : RepL K ι H xs vs) (h : atI xs k = some x) : ∃ v, atI vs k = some v ∧ Rep K ι H x v := by
  unfold atI at h ⊢
  rw [l.len] at h
  cases e : ixN vs.length k with
  | none => rw [e] at h; cases h
  | some j =>
    rw [e] at h
    obtain ⟨v, h1, h2⟩ := l.get h
    exact ⟨v, h1, h2⟩
theorem ixd : IxR X (rOp ⟨X.K, tabs⟩ ixD) := by
  rintro value slice pins s σ H x y v u Q I rx ry ⟨S, ι, d1, d2, hs, r1, r2, hw⟩ hp
  unfold ixD at hw
  split at hw
  · rename_i xs k e1
    cases r2
    split at hw
    · rename_i z e2
      obtain ⟨a, vs, rfl, l, hc⟩ := itemsD_v hs e1 r1
      obtain ⟨vz, h1, h2⟩ := atI_rep l e2
      rcases hc with ⟨ys, _, q⟩ | ⟨i, b, _, _, q⟩
      · exact ix_tup value slice pins s σ H _ _ v u Q I rx ry ⟨a, vs, k, vz, rfl, rfl, q.t, h1, PV.now hw hs h2⟩ hp
      · exact ix_list value slice pins s σ H _ _ v u Q I rx ry ⟨a, vs, k, vz, rfl, rfl, q, h1, PV.now hw hs h2⟩ hp
    · exact hw.elim
  · exact hw.elim

/-! ### slices -/
def cutD (xs : List D) (lo hi : Option Int) : List D := (xs.drop (HT.sIx xs.length 0 lo)).take (HT.sIx xs.length xs.length hi - HT.sIx xs.length 0 lo)
def slD (d : D) (lo hi : Option Int) (S : Sto) : R D := match itemsD d S with
  | some xs => if xs.length ≤ mx then (match d with
    | .tup _ => .ok (.tup (cutD xs lo hi)) S
    | _ => .ok (.ref S.length) (S ++ [.lst true (cutD xs lo hi)])) else .no
  | none => .no
def rSlD (w : Wn) : V → Option Int → Option Int → Hp → VK → Prop := fun x lo hi H Q => ∃ S ι d, SRep w.K w.tabs ι S H ∧ Rep w.K ι H d x ∧ (slD d lo hi S).wp (PV w ι H Q) (fun _ _ => False)
theorem cut_rep {K : PySem.W.Frag} {ι : List Addr} {H : Hp} {xs : List D} {vs : List V} (l : RepL K ι H xs vs) (lo hi : Option Int) : RepL K ι H (cutD xs lo hi) (cutV vs lo hi) := by
  unfold cutD cutV
  rw [l.len]
  exact (l.drop _).take _
theorem sld : SlR X (rSlD ⟨X.K, tabs⟩) := by
  rintro pins s σ H x v vl vu lo hi sl Q I rx h1 h2 h3 ⟨S, ι, d, hs, r, hw⟩
  unfold slD at hw
  split at hw
  · rename_i xs e1
    obtain ⟨a, vs, rfl, l, hc⟩ := itemsD_v hs e1 r
    by_cases hz : xs.length ≤ mx
    · rw [if_pos hz] at hw
      rcases hc with ⟨ys, rfl, q⟩ | ⟨i, b, rfl, e0, q⟩
      · cases e1
        refine Fz.sl_cut pins s σ H _ v vl vu lo hi sl Q I rx h1 h2 h3 ⟨a, vs, rfl, q.t, fun hall => ?_, fun p _ hp => ?_⟩
        · have e : cutD xs lo hi = xs := by
            unfold cutD
            rw [← l.len] at hall
            rw [hall.1, hall.2]
            simp
          rw [e] at hw
          exact PV.now hw hs ⟨a, vs, rfl, q, l⟩
        · exact hw _ _ ι (le_upd hp) (hs.extra hp) (repT hp (cut_rep l lo hi))
      · refine sl_list pins s σ H _ v vl vu lo hi sl Q I rx h1 h2 h3 ⟨a, vs, rfl, q, fun p hp => ?_⟩
        obtain ⟨s2, le2, rr2⟩ := new_lst (w := ⟨X.K, tabs⟩) hs hp (cut_rep l lo hi)
        exact hw _ _ _ le2 s2 rr2
    · rw [if_neg hz] at hw; exact hw.elim
  · exact hw.elim

/-! ### calls of built-ins -/
def lenD : OpN
  | [.str x], S => if x.length ≤ mx then .ok (.int x.length) S else .no
  | [d], S => match itemsD d S with
    | some xs => .ok (.int xs.length) S
    | none => .no
  | _, _ => .no
theorem repl1 {K : PySem.W.Frag} {ι : List Addr} {H : Hp} {d : D} {vs : List V} (r : RepL K ι H [d] vs) : ∃ v, vs = [v] ∧ Rep K ι H d v := by
  obtain ⟨v, r', rfl, q, w⟩ := r
  have w : r' = [] := w
  subst w
  exact ⟨v, rfl, q⟩
theorem repl2 {K : PySem.W.Frag} {ι : List Addr} {H : Hp} {d e : D} {vs : List V} (r : RepL K ι H [d, e] vs) : ∃ v u, vs = [v, u] ∧ Rep K ι H d v ∧ Rep K ι H e u := by
  obtain ⟨v, r', rfl, q, w⟩ := r
  obtain ⟨u, rfl, w2⟩ := repl1 w
  exact ⟨v, u, rfl, q, w2⟩
theorem crd_len : CallR X (.builtin "len") (rCl ⟨X.K, tabs⟩ lenD) := by
  rintro pins s σ H xs us Q I rx ⟨S, ι, ds, hs, r, hw⟩
  unfold lenD at hw
  split at hw
  · rename_i x
    obtain ⟨v, rfl, q⟩ := repl1 r
    cases q
    split at hw
    · rename_i hz
      exact call_len_str pins s σ H _ us Q I rx ⟨x, rfl, mx_le hz, PV.now hw hs rfl⟩
    · exact hw.elim
  · rename_i d _
    obtain ⟨v, rfl, q⟩ := repl1 r
    split at hw
    · rename_i ys e
      obtain ⟨a, vs, rfl, l, hc⟩ := itemsD_v hs e q
      refine call_len_seq pins s σ H _ us Q I rx ⟨a, vs, rfl, ?_, ?_⟩
      · rcases hc with ⟨_, _, q2⟩ | ⟨_, _, _, _, q2⟩
        · exact .inr q2.t
        · exact .inl q2
      · rw [← l.len]
        exact PV.now hw hs rfl
    · exact hw.elim
  · exact hw.elim
def absD : OpN
  | [.int i], S => .ok (.int (if i < 0 then -i else i)) S
  | _, _ => .no
theorem crd_abs : CallR X (.builtin "abs") (rCl ⟨X.K, tabs⟩ absD) := by
  rintro pins s σ H xs us Q I rx ⟨S, ι, ds, hs, r, hw⟩
  unfold absD at hw
  split at hw
  · obtain ⟨v, rfl, q⟩ := repl1 r
    cases q
    exact call_abs pins s σ H _ us Q I rx ⟨_, rfl, PV.now hw hs rfl⟩
  · exact hw.elim
def minD : OpN
  | [.int i, .int j], S => .ok (.int (if j < i then j else i)) S
  | _, _ => .no
def maxD : OpN
  | [.int i, .int j], S => .ok (.int (if j > i then j else i)) S
  | _, _ => .no
theorem crd_min (hc : X.calm = true) : CallR X (.builtin "min") (rCl ⟨X.K, tabs⟩ minD) := by
  rintro pins s σ H xs us Q I rx ⟨S, ι, ds, hs, r, hw⟩
  unfold minD at hw
  split at hw
  · obtain ⟨v, u, rfl, q1, q2⟩ := repl2 r
    cases q1; cases q2
    exact call_min2 hc pins s σ H _ us Q I rx ⟨_, _, rfl, PV.now hw hs rfl⟩
  · exact hw.elim
theorem crd_max (hc : X.calm = true) : CallR X (.builtin "max") (rCl ⟨X.K, tabs⟩ maxD) := by
  rintro pins s σ H xs us Q I rx ⟨S, ι, ds, hs, r, hw⟩
  unfold maxD at hw
  split at hw
  · obtain ⟨v, u, rfl, q1, q2⟩ := repl2 r
    cases q1; cases q2
    exact call_max2 hc pins s σ H _ us Q I rx ⟨_, _, rfl, PV.now hw hs rfl⟩
  · exact hw.elim
def tupleD : OpN
  | [d], S => match itemsD d S with
    | some xs => if xs.length ≤ mx then .ok (.tup xs) S else .no
    | none => .no
  | _, _ => .no
theorem crd_tuple : CallR X (.type "tuple") (rCl ⟨X.K, tabs⟩ tupleD) := by
  rintro pins s σ H xs us Q I rx ⟨S, ι, ds, hs, r, hw⟩
  unfold tupleD at hw
  split at hw
  · obtain ⟨v, rfl, q⟩ := repl1 r
    split at hw
    · rename_i d ys e
      obtain ⟨a, vs, rfl, l, hc⟩ := itemsD_v hs e q
      split at hw
      · refine Fz.call_tup pins s σ H _ us Q I rx ⟨a, vs, rfl, ?_⟩
        rcases hc with ⟨_, rfl, q2⟩ | ⟨_, _, _, _, q2⟩
        · cases e
          exact .inr ⟨q2.t, PV.now hw hs ⟨a, vs, rfl, q2, l⟩⟩
        · exact .inl ⟨q2, fun p _ hp => hw _ _ ι (le_upd hp) (hs.extra hp) (repT hp l)⟩
      · exact hw.elim
    · exact hw.elim
  · exact hw.elim
def listD : OpN
  | [d], S => match itemsD d S with
    | some xs => if xs.length ≤ mx then .ok (.ref S.length) (S ++ [.lst true xs]) else .no
    | none => .no
  | _, _ => .no
theorem crd_list : CallR X (.type "list") (rCl ⟨X.K, tabs⟩ listD) := by
  rintro pins s σ H xs us Q I rx ⟨S, ι, ds, hs, r, hw⟩
  unfold listD at hw
  split at hw
  · obtain ⟨v, rfl, q⟩ := repl1 r
    split at hw
    · rename_i d ys e
      obtain ⟨a, vs, rfl, l, hc⟩ := itemsD_v hs e q
      split at hw
      · refine call_list_of pins s σ H _ us Q I rx ⟨a, vs, rfl, ?_, fun p hp => ?_⟩
        · rcases hc with ⟨_, _, q2⟩ | ⟨_, _, _, _, q2⟩
          · exact .inr q2.t
          · exact .inl q2
        · obtain ⟨s2, le2, rr2⟩ := new_lst (w := ⟨X.K, tabs⟩) hs hp l
          exact hw _ _ _ le2 s2 rr2
      · exact hw.elim
    · exact hw.elim
  · exact hw.elim

/-! ### isinstance -/
inductive Kd where
  | non | bl | int | str | tup | lst | dct
def Kd.nm : Kd → String
  | .non => "NoneType" | .bl => "bool" | .int => "int" | .str => "str" | .tup => "tuple" | .lst => "list" | .dct => "dict"
/-- the kind of a thing -/
def kdOf (d : D) (S : Sto) : Kd := match d with
  | .non => .non
  | .bl _ => .bl
  | .int _ => .int
  | .str _ => .str
  | .tup _ => .tup
  | .ref i => match S[i]? with
    | some (.dk _) => .dct
    | _ => .lst
/-- the types that are asked for -/
inductive Ty where
  | bl | int | str | tup | lst | dct
def Ty.nm : Ty → String
  | .bl => "bool" | .int => "int" | .str => "str" | .tup => "tuple" | .lst => "list" | .dct => "dict"
def isK : Kd → Ty → Bool
  | .bl, .bl => true | .bl, .int => true | .int, .int => true | .str, .str => true | .tup, .tup => true | .lst, .lst => true | .dct, .dct => true
  | _, _ => false
end
end Dv

namespace Dv
open PySem PySem.Spec PyProof.Rows L2

/-! ### truth -/
def truD (d : D) (S : Sto) : Option Bool := match d with
  | .non => some false
  | .bl b => some b
  | .int i => some (i != 0)
  | .str x => if x.length ≤ mx then some ((x.length : Int) != 0) else none
  | .tup xs => some (!xs.isEmpty)
  | .ref i => match S[i]? with
    | some (.lst _ xs) => some (!xs.isEmpty)
    | some (.dk kvs) => some (!kvs.isEmpty)
    | none => none
section
variable {X : Cx} {tabs : List Addr}
theorem repl_emp {K : PySem.W.Frag} {ι : List Addr} {H : Hp} {ds : List D} {vs : List V} (l : RepL K ι H ds vs) : ds.isEmpty = vs.isEmpty := by
  have e := l.len
  cases ds <;> cases vs <;> first | rfl | (simp at e)
theorem truD_v {K : PySem.W.Frag} {ι : List Addr} {H : Hp} {S : Sto} {d : D} {b : Bool} {x : V} (hs : SRep K tabs ι S H) (h : truD d S = some b) (r : Rep K ι H d x) : TruV K x H b := by
  cases d with
  | non => cases h; cases r; exact rfl
  | bl b => cases h; cases r; exact rfl
  | int b => cases h; cases r; exact rfl
  | str y =>
    cases r
    unfold truD at h
    dsimp only at h
    split at h
    · rename_i hz
      cases h
      exact ⟨mx_le hz, rfl⟩
    · cases h
  | tup xs =>
    cases h
    obtain ⟨a, vs, rfl, q, l⟩ := r
    exact .inr (.inl ⟨vs, q.t, by rw [repl_emp l]⟩)
  | ref i =>
    obtain ⟨a, rfl, q⟩ := r
    unfold truD at h
    dsimp only at h
    split at h
    · rename_i w ds e
      cases h
      obtain ⟨a', vs, ha, hq, l⟩ := hs.list e
      rw [q] at ha
      cases ha
      exact .inl ⟨vs, hq, by rw [repl_emp l]⟩
    · rename_i kvs e
      cases h
      obtain ⟨ws, k, k2, _⟩ := hs.obj i _ a e q
      refine .inr (.inr ⟨ws, k, ?_⟩)
      have el : kvs.length = ws.length := by simpa using congrArg List.length k2
      cases kvs <;> cases ws <;> first | rfl | (simp at el)
    · cases h
end

/-! ### tests -/
def dTru (a : Den) : DenT := fun lv ρ S => (a lv ρ S).bind fun x S1 => match truD x S1 with
  | some b => .ok b S1
  | none => .no
def dBl (a : Den) : DenT := fun lv ρ S => (a lv ρ S).bind fun x S1 => match x with
  | .bl b => .ok b S1
  | _ => .no
def dAndT (a b : DenT) : DenT := fun lv ρ S => (a lv ρ S).bind fun x S1 => if x = true then b lv ρ S1 else .ok false S1
def dOrT (a b : DenT) : DenT := fun lv ρ S => (a lv ρ S).bind fun x S1 => if x = true then .ok true S1 else b lv ρ S1
def dNotT (a : DenT) : DenT := fun lv ρ S => (a lv ρ S).bind fun x S1 => .ok (!x) S1
def dIte (c : DenT) (a b : Den) : Den := fun lv ρ S => (c lv ρ S).bind fun x S1 => if x = true then a lv ρ S1 else b lv ρ S1
def dAndV (a b : Den) : Den := fun lv ρ S => (a lv ρ S).bind fun x S1 => match x with
  | .bl true => b lv ρ S1
  | .bl false => .ok (.bl false) S1
  | _ => .no
def dOrV (a b : Den) : Den := fun lv ρ S => (a lv ρ S).bind fun x S1 => match x with
  | .bl true => .ok (.bl true) S1
  | .bl false => b lv ρ S1
  | _ => .no
section
variable {X : Cx} {w : Wn} {EX : EXT} {lv : Lv} {a b c : Expr} {da db : Den} {ta tb tc : DenT} {pos : Pos}
theorem PB.now {ι : List Addr} {H : Hp} {S : Sto} {Q : Bool → Hp → Prop} {x : Bool} (h : PB w ι H Q x S) (hs : SRep w.K w.tabs ι S H) : Q x H := h H ι (Le.refl _ _) hs
theorem td_tru {tabs : List Addr} (ha : PE X a (semE ⟨X.K, tabs⟩ EX lv da)) (he : ∀ whole, isTrue a X.env whole = (do let v ← whole; standAt a.pos; holding [v] (truthy v))) : PT X a (semT ⟨X.K, tabs⟩ EX lv (dTru da)) := by
  refine PT.imp (pt_truth ha he) fun σ H Q h => ?_
  obtain ⟨ρ, S, ι, h1, hs, hw⟩ := h
  refine stepE (Po := fun ι H => PB ⟨X.K, tabs⟩ ι H Q) h1 hs (fun l q => q.mono l) hw fun x S1 v H1 ι1 l1 s1 r1 e1 h1 => ?_
  cases e : truD x S1 with
  | none => rw [e] at h1; exact h1.elim
  | some b =>
    rw [e] at h1
    exact ⟨b, truD_v s1 e r1, PB.now h1 s1⟩
/-- a value that is a truth, as a test (a comparison) -/
theorem td_cmp {op : CmpOp} {o : Op2} (ho : OpR X (compareOp op) (rOp w o)) (ha : PE X a (semE w EX lv da)) (hb : PE X b (semE w EX lv db)) (hm : behindInMarks op b = false) : PT X (.Compare a [op] [b] pos) (semT w EX lv (dBl (dOp o da db))) := by
  refine PT.imp (pt_cmpR ho ha hb hm) fun σ H Q h => ?_
  obtain ⟨ρ, S, ι, h1, hs, hw⟩ := h
  show semE w EX lv da σ H _
  have hw2 : ((da lv ρ S).bind fun x S1 => (db lv ρ S1).bind fun y S2 => (quiet (o x y S2)).bind fun x S1 => match x with | .bl b => R.ok b S1 | _ => R.no).wp (PB w ι H Q) (PX w EX ι H σ) := by
    have e : ∀ {α β γ : Type} (x : R α) (f : α → Sto → R β) (g : β → Sto → R γ), (x.bind f).bind g = x.bind fun a S => (f a S).bind g := fun x f g => by cases x <;> rfl
    unfold dBl dOp at hw
    rw [e] at hw
    have e3 : (fun a S => ((db lv ρ S).bind fun y S2 => quiet (o a y S2)).bind fun x S1 => match x with | .bl b => R.ok b S1 | _ => R.no) = fun x S1 => (db lv ρ S1).bind fun y S2 => (quiet (o x y S2)).bind fun x S1 => match x with | .bl b => R.ok b S1 | _ => R.no := by
      funext a S
      rw [e]
    rw [e3] at hw
    exact hw
  refine stepE (Po := fun ι H => PB w ι H Q) h1 hs (fun l q => q.mono l) hw2 fun x S1 v H1 ι1 l1 s1 r1 e1 h1 => ?_
  refine stepE (Po := fun ι H => PB w ι H Q) e1 s1 (fun l q => q.mono l) h1 fun y S2 u H2 ι2 l2 s2 r2 e2 h2 => ?_
  refine ⟨S2, ι2, x, y, s2, Rep.mono l2 x v r1, r2, ?_⟩
  refine R.wp_mono (quiet_wp (R.wp_bind.mp h2)) (fun z S3 hz => ?_) fun _ _ f => f
  intro v3 H3 ι3 l3 s3 r3
  cases z <;> first | exact False.elim hz | skip
  cases r3
  exact ⟨_, rfl, hz H3 ι3 l3 s3⟩
theorem td_not (ha : PT X a (semT w EX lv ta)) : PT X (.UnaryOp .Not a pos) (semT w EX lv (dNotT ta)) := by
  refine PT.imp (pt_not ha) fun σ H Q h => ?_
  obtain ⟨ρ, S, ι, h1, hs, hw⟩ := h
  exact stepT (Po := fun ι H => PB w ι H Q) h1 hs (fun l q => q.mono l) hw fun x S1 H1 ι1 l1 s1 e1 h1 => PB.now h1 s1
theorem pw_imp {e : Expr} {t t' : TT} (h : PW X e t) (i : ∀ σ H Q, t' σ H Q → t σ H Q) : PW X e t' := ⟨fun wh pins s σ H Q I q => h.run wh pins s σ H Q I (i σ H Q q)⟩
theorem td_and1 (ha : PT X a (semT w EX lv ta)) : PW X (.BoolOp .And [a] pos) (semT w EX lv ta) := pw_and1 ha
theorem td_or1 (ha : PT X a (semT w EX lv ta)) : PW X (.BoolOp .Or [a] pos) (semT w EX lv ta) := pw_or1 ha
theorem td_and {rest : List Expr} (ha : PT X a (semT w EX lv ta)) (hb : PW X (.BoolOp .And (b :: rest) pos) (semT w EX lv tb)) : PW X (.BoolOp .And (a :: b :: rest) pos) (semT w EX lv (dAndT ta tb)) := by
  refine pw_imp (pw_and ha hb) fun σ H Q h => ?_
  obtain ⟨ρ, S, ι, h1, hs, hw⟩ := h
  refine stepT (Po := fun ι H => PB w ι H Q) h1 hs (fun l q => q.mono l) hw fun x S1 H1 ι1 l1 s1 e1 h1 => ?_
  cases x with
  | true => exact ⟨ρ, S1, ι1, e1, s1, h1⟩
  | false => exact PB.now h1 s1
theorem td_or {rest : List Expr} (ha : PT X a (semT w EX lv ta)) (hb : PW X (.BoolOp .Or (b :: rest) pos) (semT w EX lv tb)) : PW X (.BoolOp .Or (a :: b :: rest) pos) (semT w EX lv (dOrT ta tb)) := by
  refine pw_imp (pw_or ha hb) fun σ H Q h => ?_
  obtain ⟨ρ, S, ι, h1, hs, hw⟩ := h
  refine stepT (Po := fun ι H => PB w ι H Q) h1 hs (fun l q => q.mono l) hw fun x S1 H1 ι1 l1 s1 e1 h1 => ?_
  cases x with
  | true => exact PB.now h1 s1
  | false => exact ⟨ρ, S1, ι1, e1, s1, h1⟩
theorem pd_not (ha : PE X a (semE w EX lv da)) : PE X (.UnaryOp .Not a pos) (semE w EX lv (dUn notD da)) := by
  refine PE.imp (pe_not ha) fun σ H Q h => ?_
  obtain ⟨ρ, S, ι, h1, hs, hw⟩ := h
  refine stepE (Po := fun ι H => PV w ι H Q) h1 hs (fun l q => q.mono l) hw fun x S1 v H1 ι1 l1 s1 r1 e1 h1 => ?_
  cases x <;> first | exact False.elim h1 | skip
  cases r1
  exact ⟨_, rfl, PV.now h1 s1 rfl⟩
theorem pd_andV {rest : List Expr} (ha : PE X a (semE w EX lv da)) (hb : PE X (.BoolOp .And (b :: rest) pos) (semE w EX lv db)) : PE X (.BoolOp .And (a :: b :: rest) pos) (semE w EX lv (dAndV da db)) := by
  refine PE.imp (pe_and ha hb) fun σ H Q h => ?_
  obtain ⟨ρ, S, ι, h1, hs, hw⟩ := h
  refine stepE (Po := fun ι H => PV w ι H Q) h1 hs (fun l q => q.mono l) hw fun x S1 v H1 ι1 l1 s1 r1 e1 h1 => ?_
  cases x <;> first | exact False.elim h1 | skip
  rename_i k
  cases r1
  cases k with
  | true => exact ⟨_, rfl, ρ, S1, ι1, e1, s1, h1⟩
  | false => exact ⟨_, rfl, PV.now h1 s1 rfl⟩
theorem pd_orV {rest : List Expr} (ha : PE X a (semE w EX lv da)) (hb : PE X (.BoolOp .Or (b :: rest) pos) (semE w EX lv db)) : PE X (.BoolOp .Or (a :: b :: rest) pos) (semE w EX lv (dOrV da db)) := by
  refine PE.imp (pe_or ha hb) fun σ H Q h => ?_
  obtain ⟨ρ, S, ι, h1, hs, hw⟩ := h
  refine stepE (Po := fun ι H => PV w ι H Q) h1 hs (fun l q => q.mono l) hw fun x S1 v H1 ι1 l1 s1 r1 e1 h1 => ?_
  cases x <;> first | exact False.elim h1 | skip
  rename_i k
  cases r1
  cases k with
  | true => exact ⟨_, rfl, PV.now h1 s1 rfl⟩
  | false => exact ⟨_, rfl, ρ, S1, ι1, e1, s1, h1⟩
/-! ### chains of comparisons -/
/-- the links behind the first value -/
abbrev DenK := D → Lv → Env → Sto → R D
def kLast (o : Op2) (b : Den) : DenK := fun x lv ρ S => (b lv ρ S).bind fun y S1 => quiet (o x y S1)
def kLink (o : Op2) (b : Den) (k : DenK) : DenK := fun x lv ρ S => (b lv ρ S).bind fun y S1 => (quiet (o x y S1)).bind fun z S2 => match z with
  | .bl true => k y lv ρ S2
  | .bl false => .ok (.bl false) S2
  | _ => .no
def dChain (a : Den) (k : DenK) : Den := fun lv ρ S => (a lv ρ S).bind fun x S1 => k x lv ρ S1
/-- a truth is wanted -/
def PBd (w : Wn) (ι : List Addr) (H : Hp) (Q : Bool → Hp → Prop) : D → Sto → Prop := fun z S1 => match z with
  | .bl b => PB w ι H Q b S1
  | _ => False
/-- a chain's rest, as a value and as a test -/
structure PK2 (X : Cx) (w : Wn) (EX : EXT) (lv : Lv) (ops : List CmpOp) (rs : List Expr) (k : DenK) : Prop where
  runV : ∀ (p : Pos) (pins : List (Addr × Obj)) (s : Shared) (σ : L2.St) (H : Hp) (ρ : Env) (S : Sto) (ι : List Addr) (x : D) (v : V) (u : Value) (Q : VK), L2.Inv X pins σ H s → ERep w.K ι H ρ σ → SRep w.K w.tabs ι S H → Rep w.K ι H x v → RelV v u → (k x lv ρ S).wp (PV w ι H Q) (PX w EX ι H σ) →
    wpAny (model X.prog X.w) X.A (compareChain p u ops (evalEach rs X.env)) (EP X pins σ Q) X.xe s
  runT : ∀ (p : Pos) (pins : List (Addr × Obj)) (s : Shared) (σ : L2.St) (H : Hp) (ρ : Env) (S : Sto) (ι : List Addr) (x : D) (v : V) (u : Value) (Q : Bool → Hp → Prop), L2.Inv X pins σ H s → ERep w.K ι H ρ σ → SRep w.K w.tabs ι S H → Rep w.K ι H x v → RelV v u →
    (k x lv ρ S).wp (PBd w ι H Q) (PX w EX ι H σ) →
    wpAny (model X.prog X.w) X.A (testChain p u ops (evalEach rs X.env)) (TP X pins σ Q) X.xe s
end
end Dv

namespace Dv
open PySem PySem.Spec PyProof.Rows L2

/-! ### calls of built-ins -/
theorem bi_len : bootBuiltins "len" = some (.builtin "len") := by decide +kernel
theorem bi_abs : bootBuiltins "abs" = some (.builtin "abs") := by decide +kernel
theorem bi_min : bootBuiltins "min" = some (.builtin "min") := by decide +kernel
theorem bi_max : bootBuiltins "max" = some (.builtin "max") := by decide +kernel
theorem bi_sorted : bootBuiltins "sorted" = some (.builtin "sorted") := by decide +kernel
theorem bi_repr : bootBuiltins "repr" = some (.builtin "repr") := by decide +kernel
theorem bi_sum : bootBuiltins "sum" = some (.builtin "sum") := by decide +kernel
theorem bt_int : bootBuiltins "int" = some (.type "int") := by decide +kernel
theorem bt_tuple : bootBuiltins "tuple" = some (.type "tuple") := by decide +kernel
theorem bt_list : bootBuiltins "list" = some (.type "list") := by decide +kernel
def dCl (o : OpN) (a : DenA) : Den := fun lv ρ S => (a lv ρ S).bind fun xs S1 => quiet (o xs S1)
section
variable {X : Cx} {w : Wn} {EX : EXT} {lv : Lv} {a b e : Expr} {es : List Expr} {da db : Den} {ra : DenA} {p pos apos cpos : Pos} {x : Str} {id T : String}
theorem sem_cl {o : OpN} {σ : L2.St} {H : Hp} {Q : VK} (h : semE w EX lv (dCl o ra) σ H Q) : tCB (rCl w o) (semA w EX lv ra) σ H Q := by
  obtain ⟨ρ, S, ι, he, hs, hw⟩ := h
  refine stepA (Po := fun ι H => PV w ι H Q) he hs (fun l q => q.mono l) hw fun xs S1 vs H1 ι1 l1 s1 r1 e1 h1 => ?_
  exact ⟨S1, ι1, xs, s1, r1, quiet_wp h1⟩
theorem pd_callB {o : OpN} (hc : CallR X (.builtin id) (rCl w o)) (hg : Gl X x) (hm : X.mg x = none) (hv : bootBuiltins x = some (.builtin id)) (ha : PA X (e :: es) (semA w EX lv ra)) (hn : x ≠ "__name__") (hdb : (x == ("__debug__" : Str)) = false)
    (he : starEach (e :: es) X.env = (false, eval e X.env) :: starEach es X.env) (hpl : (backTo pos (starEach es X.env)).any (·.1) = false) : PE X (.Call (.Name x p) (e :: es) [] pos) (semE w EX lv (dCl o ra)) :=
  PE.imp (pe_callB hc hg hm hv ha hn hdb he hpl) fun _ _ _ h => sem_cl h
theorem pd_callTy {o : OpN} (hc : CallR X (.type T) (rCl w o)) (hg : Gl X x) (hm : X.mg x = none) (hv : bootBuiltins x = some (.type T)) (ha : PA X (e :: es) (semA w EX lv ra)) (hn : x ≠ "__name__") (hdb : (x == ("__debug__" : Str)) = false)
    (he : starEach (e :: es) X.env = (false, eval e X.env) :: starEach es X.env) (hpl : (backTo pos (starEach es X.env)).any (·.1) = false) : PE X (.Call (.Name x p) (e :: es) [] pos) (semE w EX lv (dCl o ra)) :=
  PE.imp (pe_callTy hc hg hm hv ha hn hdb he hpl) fun _ _ _ h => sem_cl h

/-- isinstance(e, T) -/
def dIsi (T : Ty) (a : Den) : Den := fun lv ρ S => (a lv ρ S).bind fun d S1 => .ok (.bl (isK (kdOf d S1) T)) S1
/-! ### methods of lists -/
abbrev OpM := D → List D → Sto → R D
def rMt (w : Wn) (m : OpM) : V → List V → Hp → VK → Prop := fun x xs H Q => ∃ S ι d ds, SRep w.K w.tabs ι S H ∧ Rep w.K ι H d x ∧ RepL w.K ι H ds xs ∧ (m d ds S).wp (PV w ι H Q) (fun _ _ => False)
def isL (d : D) (S : Sto) : Bool := match d with
  | .ref i => match S[i]? with
    | some (.lst _ _) => true
    | _ => false
  | _ => false
def dMt (m : OpM) (o : Den) (a : DenA) : Den := fun lv ρ S => (o lv ρ S).bind fun x S1 => if isL x S1 = true then (a lv ρ S1).bind fun xs S2 => quiet (m x xs S2) else .no
theorem isL_v {K : PySem.W.Frag} {tabs ι : List Addr} {H : Hp} {S : Sto} {d : D} {x : V} (hs : SRep K tabs ι S H) (h : isL d S = true) (r : Rep K ι H d x) : tyV K "list" x H := by
  cases d <;> first | (cases h; done) | skip
  rename_i i
  unfold isL at h
  dsimp only at h
  split at h
  · rename_i b ys e
    obtain ⟨a, rfl, q⟩ := r
    obtain ⟨a', vs, ha, hq, l⟩ := hs.list e
    rw [q] at ha
    cases ha
    exact .inl ⟨rfl, vs, hq⟩
  · cases h
theorem pd_mt {tabs : List Addr} {m : OpM} {o : Expr} {name : Str} (slot : Slot "list" name id) (hty : typeOf (.builtin id) = pure (.type "method_descriptor")) (hm : MtR X id (rMt ⟨X.K, tabs⟩ m)) (ho : PE X o (semE ⟨X.K, tabs⟩ EX lv da)) (ha : PA X (e :: es) (semA ⟨X.K, tabs⟩ EX lv ra))
    (hbase : attributeBase o name X.env (eval o X.env) = eval o X.env)
    (hfew : ((backTo cpos (starEach (e :: es) X.env)).all (fun x => !x.1) && (backToKw cpos (keywordEach [] X.env)).all (fun x => x.1.isSome)
      && decide ((e :: es).length + ([] : List Keyword).length + (if ([] : List Keyword).isEmpty then 0 else 1) < 30)) = true)
    (hline : (apos.endLine == cpos.line) = true) (hs : starEach (e :: es) X.env = (false, eval e X.env) :: starEach es X.env) (hplain : (backTo cpos (starEach es X.env)).any (·.1) = false) :
    PE X (.Call (.Attribute o name apos) (e :: es) [] cpos) (semE ⟨X.K, tabs⟩ EX lv (dMt m da ra)) := by
  refine PE.imp (pe_bm PySem.F.plainAttrs_list slot hty hm ho ha hbase hfew hline hs hplain) fun σ H Q h => ?_
  obtain ⟨ρ, S, ι, he, hs, hw⟩ := h
  refine stepE (Po := fun ι H => PV ⟨X.K, tabs⟩ ι H Q) he hs (fun l q => q.mono l) hw fun x S1 v H1 ι1 l1 s1 r1 e1 h1 => ?_
  by_cases hL : isL x S1 = true
  · rw [if_pos hL] at h1
    refine ⟨isL_v s1 hL r1, ?_⟩
    refine stepA (Po := fun ι H => PV ⟨X.K, tabs⟩ ι H Q) e1 s1 (fun l q => q.mono l) h1 fun xs S2 vs H2 ι2 l2 s2 r2 e2 h2 => ?_
    exact ⟨S2, ι2, x, xs, s2, Rep.mono l2 x v r1, r2, quiet_wp h2⟩
  · rw [if_neg hL] at h1
    exact h1.elim
/-- a list of the store is written -/
theorem put_lst {tabs ι : List Addr} {H : Hp} {S : Sto} {i : Nat} {a : Addr} {xs ys : List D} {us : List V} (hs : SRep X.K tabs ι S H) (e1 : S[i]? = some (.lst true xs)) (e2 : ι[i]? = some a) (r : RepL X.K ι H ys us) :
    SRep X.K tabs ι (S.set i (.lst true ys)) (upd H a (.lst us)) ∧ Le ι H ι (upd H a (.lst us)) := by
  obtain ⟨vs, k, _⟩ := hs.obj i _ a e1 e2
  have l : Le ι H ι (upd H a (.lst us)) := ⟨fun _ _ z => z, fun b vs z => by
      rw [upd_ne (fun q => by rw [q, k] at z; cases z)]; exact z, fun b o u z => by
      rw [upd_ne (fun q => by rw [q, k] at z; cases z)]; exact z⟩
  exact hs.put e1 e2 rfl rfl ⟨us, upd_same, RepL.mono l _ _ r⟩
def appendD : OpM
  | .ref i, [y], S => match S[i]? with
    | some (.lst true xs) => if xs.length < mx then .ok .non (S.set i (.lst true (xs ++ [y]))) else .no
    | _ => .no
  | _, _, _ => .no
theorem mtd_append {tabs : List Addr} : MtR X "list.append" (rMt ⟨X.K, tabs⟩ appendD) := by
  rintro pins s σ H x xs v us Q I rx rxs ⟨S, ι, d, ds, hs, r1, r2, hw⟩
  unfold appendD at hw
  split at hw
  · rename_i i y
    obtain ⟨u, rfl, q⟩ := repl1 r2
    obtain ⟨a, rfl, ha⟩ := r1
    split at hw
    · rename_i zs e
      split at hw
      · rename_i hz
        obtain ⟨vs, k, l⟩ := hs.obj i _ a e ha
        obtain ⟨s2, l2⟩ := put_lst hs e ha (l.app (RepL.one q))
        exact mt_append pins s σ H _ _ v us Q I rx rxs ⟨a, vs, u, rfl, rfl, k, by rw [← l.len]; exact mx_lt hz, hw _ _ ι l2 s2 rfl⟩
      · exact hw.elim
    · exact hw.elim
  · exact hw.elim
def popAtD : OpM
  | .ref i, [.int k], S => match S[i]? with
    | some (.lst true xs) => if 0 ≤ k ∧ k < 1000000 then (match xs[k.toNat]? with
      | some y => .ok y (S.set i (.lst true (xs.eraseIdx k.toNat)))
      | none => .no) else .no
    | _ => .no
  | .ref i, [], S => match S[i]? with
    | some (.lst true xs) => (match xs[xs.length - 1]? with
      | some y => .ok y (S.set i (.lst true xs.dropLast))
      | none => .no)
    | _ => .no
  | _, _, _ => .no
theorem repl_dropLast {K : PySem.W.Frag} {ι : List Addr} {H : Hp} {ds : List D} {vs : List V} (l : RepL K ι H ds vs) : RepL K ι H ds.dropLast vs.dropLast := by
  rw [List.dropLast_eq_take, List.dropLast_eq_take, l.len]
  exact l.take _
theorem mtd_pop {tabs : List Addr} : MtR X "list.pop" (rMt ⟨X.K, tabs⟩ popAtD) := by
  rintro pins s σ H x xs v us Q I rx rxs ⟨S, ι, d, ds, hs, r1, r2, hw⟩
  unfold popAtD at hw
  split at hw
  · rename_i i k
    obtain ⟨u, rfl, q⟩ := repl1 r2
    cases q
    obtain ⟨a, rfl, ha⟩ := r1
    split at hw
    · rename_i zs e
      split at hw
      · rename_i hk
        split at hw
        · rename_i y ey
          obtain ⟨vs, kk, l⟩ := hs.obj i _ a e ha
          obtain ⟨s2, l2⟩ := put_lst hs e ha (l.erase k.toNat)
          obtain ⟨vy, h1, h2⟩ := l.get ey
          have hlt : k.toNat < vs.length := (List.getElem?_eq_some_iff.mp h1).1
          exact mt_popAt pins s σ H _ _ v us Q I rx rxs ⟨a, vs, k, k.toNat, vy, rfl, rfl, kk, by omega, by omega, seqIndex_of hk.1 (by omega), h1, hw _ _ ι l2 s2 (Rep.mono l2 _ _ h2)⟩
        · exact hw.elim
      · exact hw.elim
    · exact hw.elim
  · rename_i i
    have e0 : xs = [] := r2
    subst e0
    obtain ⟨a, rfl, ha⟩ := r1
    split at hw
    · rename_i zs e
      split at hw
      · rename_i y ey
        obtain ⟨vs, kk, l⟩ := hs.obj i _ a e ha
        obtain ⟨s2, l2⟩ := put_lst hs e ha (repl_dropLast l)
        obtain ⟨vy, h1, h2⟩ := l.get ey
        rw [l.len] at h1
        exact mt_pop pins s σ H _ _ v us Q I rx rxs ⟨a, vs, vy, rfl, rfl, kk, h1, hw _ _ ι l2 s2 (Rep.mono l2 _ _ h2)⟩
      · exact hw.elim
    · exact hw.elim
  · exact hw.elim
def extendD : OpM
  | .ref i, [.ref j], S => match S[i]?, S[j]? with
    | some (.lst true xs), some (.lst true ys) => if xs.length + ys.length ≤ mx then .ok .non (S.set i (.lst true (xs ++ ys))) else .no
    | _, _ => .no
  | _, _, _ => .no
theorem mtd_extend {tabs : List Addr} : MtR X "list.extend" (rMt ⟨X.K, tabs⟩ extendD) := by
  rintro pins s σ H x xs v us Q I rx rxs ⟨S, ι, d, ds, hs, r1, r2, hw⟩
  unfold extendD at hw
  split at hw
  · rename_i i j
    obtain ⟨u, rfl, q⟩ := repl1 r2
    obtain ⟨b, rfl, hb⟩ := q
    obtain ⟨a, rfl, ha⟩ := r1
    split at hw
    · rename_i zs ys e e2
      split at hw
      · rename_i hz
        obtain ⟨vs, k, l⟩ := hs.obj i _ a e ha
        obtain ⟨us2, k2, l2⟩ := hs.obj j _ b e2 hb
        obtain ⟨s2, le2⟩ := put_lst hs e ha (l.app l2)
        exact mt_extend pins s σ H _ _ v us Q I rx rxs ⟨a, b, vs, us2, rfl, rfl, k, k2, by rw [← l.len, ← l2.len]; exact mx_le hz, hw _ _ ι le2 s2 rfl⟩
      · exact hw.elim
    · exact hw.elim
  · exact hw.elim
def reverseD : OpM
  | .ref i, [], S => match S[i]? with
    | some (.lst true xs) => .ok .non (S.set i (.lst true xs.reverse))
    | _ => .no
  | _, _, _ => .no
/-! ### slices as expressions -/
def dSl (a : Den) (lo hi : Option Den) : Den := fun lv ρ S => (a lv ρ S).bind fun x S1 =>
  (match lo with | none => R.ok (none : Option Int) S1 | some l => (l lv ρ S1).bind fun y S2 => match y with | .int i => .ok (some i) S2 | _ => .no).bind fun l S2 =>
  (match hi with | none => R.ok (none : Option Int) S2 | some h => (h lv ρ S2).bind fun y S3 => match y with | .int i => .ok (some i) S3 | _ => .no).bind fun h S3 => quiet (slD x l h S3)
def poDen (o : Option Den) : Lv → Env → Sto → R (Option Int) := fun lv ρ S => match o with
  | none => .ok none S
  | some d => (d lv ρ S).bind fun y S1 => match y with
    | .int i => .ok (some i) S1
    | _ => .no
def PO1 (w : Wn) (ι : List Addr) (H : Hp) (Q : Option Int → Hp → Prop) : Option Int → Sto → Prop := fun o S' => ∀ H' ι', Le ι H ι' H' → SRep w.K w.tabs ι' S' H' → Q o H'
def semO (w : Wn) (EX : EXT) (lv : Lv) (d : Lv → Env → Sto → R (Option Int)) : TO := fun σ H Q => ∃ ρ S ι, ERep w.K ι H ρ σ ∧ SRep w.K w.tabs ι S H ∧ (d lv ρ S).wp (PO1 w ι H Q) (PX w EX ι H σ)
theorem PO.imp {o : Option Expr} {t t' : TO} (h : PO X o t) (i : ∀ σ H Q, t' σ H Q → t σ H Q) : PO X o t' := ⟨fun pins s σ H Q I q => h.run pins s σ H Q I (i σ H Q q)⟩
theorem od_none : PO X none (semO w EX lv (poDen none)) := PO.imp po_none fun σ H Q h => by
  obtain ⟨ρ, S, ι, he, hs, hw⟩ := h
  exact hw H ι (Le.refl _ _) hs
theorem od_some (ha : PE X a (semE w EX lv da)) : PO X (some a) (semO w EX lv (poDen (some da))) := PO.imp (po_some ha) fun σ H Q h => by
  obtain ⟨ρ, S, ι, he, hs, hw⟩ := h
  refine stepE (Po := fun ι H => PO1 w ι H Q) he hs (fun l q H' ι' l' => q H' ι' (l.trans l')) hw fun x S1 v H1 ι1 l1 s1 r1 e1 h1 => ?_
  cases x <;> first | exact False.elim h1 | skip
  cases r1
  exact ⟨_, rfl, h1 H1 ι1 (Le.refl _ _) s1⟩
theorem pd_sl {tabs : List Addr} {lo hi : Option Expr} {dl dh : Option Den} {p2 : Pos} (ha : PE X a (semE ⟨X.K, tabs⟩ EX lv da)) (hl : PO X lo (semO ⟨X.K, tabs⟩ EX lv (poDen dl))) (hh : PO X hi (semO ⟨X.K, tabs⟩ EX lv (poDen dh))) :
    PE X (.Subscript a (.Slice lo hi none p2) pos) (semE ⟨X.K, tabs⟩ EX lv (dSl da dl dh)) := by
  refine PE.imp (pe_slice (sld (tabs := tabs)) ha hl hh) fun σ H Q h => ?_
  obtain ⟨ρ, S, ι, he, hs, hw⟩ := h
  have hw : ((da lv ρ S).bind fun x S1 => (poDen dl lv ρ S1).bind fun l S2 => (poDen dh lv ρ S2).bind fun h S3 => quiet (slD x l h S3)).wp (PV ⟨X.K, tabs⟩ ι H Q) (PX ⟨X.K, tabs⟩ EX ι H σ) := hw
  refine stepE (Po := fun ι H => PV ⟨X.K, tabs⟩ ι H Q) he hs (fun l q => q.mono l) hw fun x S1 v H1 ι1 l1 s1 r1 e1 h1 => ?_
  refine ⟨ρ, S1, ι1, e1, s1, R.wp_mono (R.wp_bind.mp h1) (fun l S2 h2 => ?_) fun c S2 h2 => h2⟩
  intro H2 ι2 l2 s2
  refine ⟨ρ, S2, ι2, e1.mono l2, s2, R.wp_mono (R.wp_bind.mp h2) (fun hh S3 h3 => ?_) fun c S3 h3 => PX.mono l2 h3⟩
  intro H3 ι3 l3 s3
  have l23 := l2.trans l3
  exact ⟨S3, ι3, x, s3, Rep.mono l23 x v r1, R.wp_mono (quiet_wp h3) (fun _ _ q => q.mono l23) fun _ _ f => f⟩
end
end Dv

namespace Dv
open PySem PySem.Spec PyProof.Rows L2

/-- how a statement ends -/
inductive Fl where
  | nx (ρ : Env) | rt (d : D) | bk (ρ : Env) | ct (ρ : Env) | xc (c : Nat) (ρ : Env)
abbrev DenS := Lv → Env → Sto → R Fl
/-- a part of a statement: its errors are the statement's, with the names as they stand -/
def R.bindS {α : Type} (x : R α) (ρ : Env) (f : α → Sto → R Fl) : R Fl := match x with
  | .ok a S => f a S
  | .ex c S => .ok (.xc c ρ) S
  | .no => .no
@[simp] theorem R.bindS_ok {α : Type} {a : α} {S : Sto} {ρ : Env} {f : α → Sto → R Fl} : (R.ok a S).bindS ρ f = f a S := id rfl
@[simp] theorem R.bindS_ex {α : Type} {c : Nat} {S : Sto} {ρ : Env} {f : α → Sto → R Fl} : (R.ex c S : R α).bindS ρ f = .ok (.xc c ρ) S := id rfl
@[simp] theorem R.bindS_no {α : Type} {ρ : Env} {f : α → Sto → R Fl} : (R.no : R α).bindS ρ f = .no := id rfl

def PF (w : Wn) (EX : EXT) (ι : List Addr) (H : Hp) (Dn : Ends) : Fl → Sto → Prop := fun f S' => match f with
  | .nx ρ => ∀ σ' H' ι', Le ι H ι' H' → SRep w.K w.tabs ι' S' H' → ERep w.K ι' H' ρ σ' → Dn.nx σ' H'
  | .rt d => ∀ v H' ι', Le ι H ι' H' → SRep w.K w.tabs ι' S' H' → Rep w.K ι' H' d v → Dn.rt v H'
  | .bk ρ => ∀ σ' H' ι', Le ι H ι' H' → SRep w.K w.tabs ι' S' H' → ERep w.K ι' H' ρ σ' → Dn.bk σ' H'
  | .ct ρ => ∀ σ' H' ι', Le ι H ι' H' → SRep w.K w.tabs ι' S' H' → ERep w.K ι' H' ρ σ' → Dn.ct σ' H'
  | .xc c ρ => ∀ σ' H' ι', Le ι H ι' H' → SRep w.K w.tabs ι' S' H' → ERep w.K ι' H' ρ σ' → EX c σ' H'
theorem PF.mono {w : Wn} {EX : EXT} {ι ι1 : List Addr} {H H1 : Hp} {Dn : Ends} {f : Fl} {S : Sto} (l : Le ι H ι1 H1) (h : PF w EX ι H Dn f S) : PF w EX ι1 H1 Dn f S := by
  cases f <;> exact fun v H' ι' l' => h v H' ι' (l.trans l')
abbrev noX : Nat → Sto → Prop := fun _ _ => False
def semS (w : Wn) (EX : EXT) (lv : Lv) (d : DenS) : TS := fun Dn σ H => ∃ ρ S ι, ERep w.K ι H ρ σ ∧ SRep w.K w.tabs ι S H ∧ (d lv ρ S).wp (PF w EX ι H Dn) noX

section
variable {X : Cx} {w : Wn} {EX : EXT} {lv : Lv} {σ : L2.St} {H : Hp} {ρ : Env} {S : Sto} {ι : List Addr} {Dn : Ends}
theorem stepES {d : Den} {k : D → Sto → R Fl} {T : VK} (he : ERep w.K ι H ρ σ) (hs : SRep w.K w.tabs ι S H)
    (hw : ((d lv ρ S).bindS ρ k).wp (PF w EX ι H Dn) noX)
    (cont : ∀ x S1 v H1 ι1, Le ι H ι1 H1 → SRep w.K w.tabs ι1 S1 H1 → Rep w.K ι1 H1 x v → ERep w.K ι1 H1 ρ σ → (k x S1).wp (PF w EX ι1 H1 Dn) noX → T v H1) : semE w EX lv d σ H T := by
  refine ⟨ρ, S, ι, he, hs, ?_⟩
  cases e : d lv ρ S with
  | ok x S1 =>
    rw [e] at hw
    exact fun v H1 ι1 l s1 r => cont x S1 v H1 ι1 l s1 r (he.mono l) (R.wp_mono hw (fun f S2 q => q.mono l) fun _ _ q => q)
  | ex c S1 =>
    rw [e] at hw
    exact fun H1 ι1 l s1 => hw σ H1 ι1 l s1 (he.mono l)
  | no => rw [e] at hw; exact hw.elim
theorem stepTS {d : DenT} {k : Bool → Sto → R Fl} {T : Bool → Hp → Prop} (he : ERep w.K ι H ρ σ) (hs : SRep w.K w.tabs ι S H)
    (hw : ((d lv ρ S).bindS ρ k).wp (PF w EX ι H Dn) noX)
    (cont : ∀ x S1 H1 ι1, Le ι H ι1 H1 → SRep w.K w.tabs ι1 S1 H1 → ERep w.K ι1 H1 ρ σ → (k x S1).wp (PF w EX ι1 H1 Dn) noX → T x H1) : semT w EX lv d σ H T := by
  refine ⟨ρ, S, ι, he, hs, ?_⟩
  cases e : d lv ρ S with
  | ok x S1 =>
    rw [e] at hw
    exact fun H1 ι1 l s1 => cont x S1 H1 ι1 l s1 (he.mono l) (R.wp_mono hw (fun f S2 q => q.mono l) fun _ _ q => q)
  | ex c S1 =>
    rw [e] at hw
    exact fun H1 ι1 l s1 => hw σ H1 ι1 l s1 (he.mono l)
  | no => rw [e] at hw; exact hw.elim

/-! ### plain statements -/
def sNil : DenS := fun _ ρ S => .ok (.nx ρ) S
def sSeq (a b : DenS) : DenS := fun lv ρ S => (a lv ρ S).bind fun f S1 => match f with
  | .nx ρ1 => b lv ρ1 S1
  | g => .ok g S1
def sRet (e : Den) : DenS := fun lv ρ S => (e lv ρ S).bindS ρ fun d S1 => .ok (.rt d) S1
def sRetN : DenS := fun _ _ S => .ok (.rt .non) S
def sExpr (e : Den) : DenS := fun lv ρ S => (e lv ρ S).bindS ρ fun _ S1 => .ok (.nx ρ) S1
def sBrk : DenS := fun _ ρ S => .ok (.bk ρ) S
def sCnt : DenS := fun _ ρ S => .ok (.ct ρ) S
def sIf (c : DenT) (a b : DenS) : DenS := fun lv ρ S => (c lv ρ S).bindS ρ fun x S1 => if x = true then a lv ρ S1 else b lv ρ S1
variable {st : Stmt} {rest : List Stmt} {a b : DenS} {e : Expr} {de : Den} {pos : Pos}
theorem sd_nil : PSs X [] (semS w EX lv sNil) := PSs.imp pss_nil fun Dn σ H h => by
  obtain ⟨ρ, S, ι, he, hs, hw⟩ := h
  exact hw σ H ι (Le.refl _ _) hs he
theorem sd_cons (h1 : PS X st (semS w EX lv a)) (h2 : PSs X rest (semS w EX lv b)) : PSs X (st :: rest) (semS w EX lv (sSeq a b)) := PSs.imp (pss_cons h1 h2) fun Dn σ H h => by
  obtain ⟨ρ, S, ι, he, hs, hw⟩ := h
  refine ⟨ρ, S, ι, he, hs, R.wp_mono (R.wp_bind.mp hw) (fun f S1 h => ?_) fun _ _ q => q⟩
  cases f with
  | nx ρ1 => exact fun σ' H' ι' l s1 e1 => ⟨ρ1, S1, ι', e1, s1, R.wp_mono h (fun f S2 q => q.mono l) fun _ _ q => q⟩
  | rt d => exact h
  | bk d => exact h
  | ct d => exact h
  | xc c d => exact h
theorem sd_one (h1 : PS X st (semS w EX lv a)) : PSs X [st] (semS w EX lv a) := pss_one h1
theorem sd_ret (ha : PE X e (semE w EX lv de)) : PS X (.Return (some e) pos) (semS w EX lv (sRet de)) := PS.imp (ps_ret ha) fun Dn σ H h => by
  obtain ⟨ρ, S, ι, he, hs, hw⟩ := h
  exact stepES he hs hw fun x S1 v H1 ι1 l1 s1 r1 e1 h1 => h1 v H1 ι1 (Le.refl _ _) s1 r1
theorem sd_expr (ha : PE X e (semE w EX lv de)) (hs : swapsWith e none pos.line X.env = pure false) : PS X (.Expr e pos) (semS w EX lv (sExpr de)) := PS.imp (ps_expr ha hs) fun Dn σ H h => by
  obtain ⟨ρ, S, ι, he, hs, hw⟩ := h
  exact stepES he hs hw fun x S1 v H1 ι1 l1 s1 r1 e1 h1 => h1 σ H1 ι1 (Le.refl _ _) s1 e1
theorem sd_if {c : Expr} {tc : DenT} {xs ys : List Stmt} (hc : PT X c (semT w EX lv tc)) (ha : PSs X xs (semS w EX lv a)) (hb : PSs X ys (semS w EX lv b)) : PS X (.If c xs ys pos) (semS w EX lv (sIf tc a b)) := PS.imp (ps_if hc ha hb) fun Dn σ H h => by
  obtain ⟨ρ, S, ι, he, hs, hw⟩ := h
  refine stepTS he hs hw fun x S1 H1 ι1 l1 s1 e1 h1 => ?_
  cases x with
  | true => exact ⟨ρ, S1, ι1, e1, s1, h1⟩
  | false => exact ⟨ρ, S1, ι1, e1, s1, h1⟩

/-! ### targets -/
inductive Tg where
  | nm (i : Nat) | tp (is : List Nat)
def setAll : List Nat → List D → Env → Env
  | i :: is, d :: ds, ρ => setAll is ds (ρ.set i (some d))
  | _, _, ρ => ρ
def tgD : Tg → D → Env → Option Env
  | .nm i, d, ρ => some (ρ.set i (some d))
  | .tp is, .tup ds, ρ => if ds.length = is.length then some (setAll is ds ρ) else none
  | _, _, _ => none
def Tg.slots : Tg → List Nat
  | .nm i => [i]
  | .tp is => is
/-- but for these slots nothing is changed -/
def Kp (is : List Nat) (σ σ' : L2.St) : Prop := ∀ vs : List Nat, (∀ i ∈ is, i ∈ vs) → wipe σ' vs = wipe σ vs
theorem Kp.refl {is : List Nat} (σ : L2.St) : Kp is σ σ := fun _ _ => rfl
theorem wipe_set {σ : L2.St} {i : Nat} {v : Option V} : ∀ {vs : List Nat}, i ∈ vs → wipe (σ.set i v) vs = wipe σ vs := by
  have len : ∀ (σ : L2.St) (vs : List Nat), (wipe σ vs).length = σ.length := wipe_length
  have at_ : ∀ (σ : L2.St) (vs : List Nat) (j : Nat), (wipe σ vs)[j]? = if j ∈ vs ∧ j < σ.length then some none else σ[j]? := by
    intro σ vs
    induction vs with
    | nil => intro j; simp [wipe]
    | cons u us ih =>
      intro j
      unfold wipe
      by_cases hj : u = j
      · subst hj
        by_cases hl : u < σ.length
        · rw [List.getElem?_set_self (by rw [len]; exact hl)]
          simp [hl]
        · rw [List.getElem?_eq_none (by rw [List.length_set, len]; omega)]
          rw [if_neg (fun q => hl q.2), List.getElem?_eq_none (by omega)]
      · rw [List.getElem?_set_ne hj, ih j]
        have e : (j ∈ u :: us) ↔ j ∈ us := by simp [Ne.symm hj]
        by_cases q : j ∈ us ∧ j < σ.length
        · rw [if_pos q, if_pos ⟨e.mpr q.1, q.2⟩]
        · rw [if_neg q, if_neg (fun z => q ⟨e.mp z.1, z.2⟩)]
  intro vs h
  refine List.ext_getElem? fun j => ?_
  rw [at_, at_, List.length_set]
  by_cases q : j ∈ vs ∧ j < σ.length
  · rw [if_pos q, if_pos q]
  · rw [if_neg q, if_neg q]
    by_cases hij : i = j
    · subst hij
      have hl : ¬ i < σ.length := fun z => q ⟨h, z⟩
      rw [List.getElem?_eq_none (by rw [List.length_set]; omega), List.getElem?_eq_none (by omega)]
    · rw [List.getElem?_set_ne hij]
def semG (w : Wn) (t : Tg) : TG := fun v σ H Q => ∃ ρ ι d ρ', ERep w.K ι H ρ σ ∧ Rep w.K ι H d v ∧ tgD t d ρ = some ρ' ∧ ∀ σ', ERep w.K ι H ρ' σ' → Kp t.slots σ σ' → Q σ' H
theorem PG.imp {tg : Expr} {t t' : TG} (h : PG X tg t) (i : ∀ v σ H Q, t' v σ H Q → t v σ H Q) : PG X tg t' := ⟨fun pins s σ H v u Q I r q => h.run pins s σ H v u Q I r (i v σ H Q q)⟩
theorem PGs.imp {tg : List Expr} {t t' : TGs} (h : PGs X tg t) (i : ∀ v σ H Q, t' v σ H Q → t v σ H Q) : PGs X tg t' := ⟨fun pins s σ H v u Q I r q => h.run pins s σ H v u Q I r (i v σ H Q q)⟩
theorem gd_name {i : Nat} {x : Str} (hN : X.N.Nodup) (hi : X.N[i]? = some x) (hx : Loc X.env.scope x) (hf : X.fn x = true ∨ X.env.scope.names.lookup x = some .local) : PG X (.Name x pos) (semG w (.nm i)) :=
  PG.imp (pg_name hN hi hx hf) fun v σ H Q h => by
    obtain ⟨ρ, ι, d, ρ', he, r, e, q⟩ := h
    cases e
    exact q _ (he.set r) fun vs hv => wipe_set (hv i (List.mem_singleton.mpr rfl))
def semGs (w : Wn) (is : List Nat) : TGs := fun vs σ H Q => ∃ ρ ι ds, ERep w.K ι H ρ σ ∧ RepL w.K ι H ds vs ∧ ds.length = is.length ∧ ∀ σ', ERep w.K ι H (setAll is ds ρ) σ' → Kp is σ σ' → Q σ' H
theorem gds_nil : PGs X [] (semGs w []) := PGs.imp pgs_nil fun vs σ H Q h => by
  obtain ⟨ρ, ι, ds, he, r, e, q⟩ := h
  have e0 : ds = [] := List.eq_nil_of_length_eq_zero e
  subst e0
  exact ⟨r, q σ he (Kp.refl σ)⟩
theorem gds_cons {e : Expr} {es : List Expr} {i : Nat} {is : List Nat} (h1 : PG X e (semG w (.nm i))) (h2 : PGs X es (semGs w is)) (hs : (assignEach (e :: es) X.env).map (·.2) = assign e X.env :: (assignEach es X.env).map (·.2)) : PGs X (e :: es) (semGs w (i :: is)) :=
  PGs.imp (pgs_cons h1 h2 hs) fun vs σ H Q h => by
    obtain ⟨ρ, ι, ds, he, r, e, q⟩ := h
    cases ds with
    | nil => cases e
    | cons d ds =>
      obtain ⟨v, vr, rfl, r1, r2⟩ := r
      refine ⟨v, vr, rfl, ρ, ι, d, _, he, r1, rfl, fun σ' e1 k1 => ?_⟩
      refine ⟨_, ι, ds, e1, r2, by simpa using e, fun σ2 e2 k2 => q σ2 e2 fun vs hv => ?_⟩
      rw [k2 vs fun j hj => hv j (List.mem_cons_of_mem _ hj)]
      exact k1 vs fun j hj => by
        rw [List.mem_singleton.mp hj]
        exact hv i List.mem_cons_self
theorem gd_tup {tabs : List Addr} {es : List Expr} {k : Nat} {is : List Nat} (hc : X.calm = true) (h : PGs X es (semGs ⟨X.K, tabs⟩ is)) (hn : (assignEach es X.env).length = is.length) (hst : (assignEach es X.env).findIdx? (·.1) = none) :
    PG X (.Tuple es k pos) (semG ⟨X.K, tabs⟩ (.tp is)) := PG.imp (pg_tup (n := is.length) hc h hn hst) fun v σ H Q h => by
  obtain ⟨ρ, ι, d, ρ', he, r, e, q⟩ := h
  cases d <;> first | (cases e; done) | skip
  rename_i ds
  obtain ⟨a, vs, rfl, hq, l⟩ := r
  unfold tgD at e
  dsimp only at e
  split at e
  · rename_i hl
    cases e
    exact ⟨a, vs, rfl, hq.t, by rw [← l.len]; exact hl, ρ, ι, ds, he, l, hl, q⟩
  · cases e
def sAsg (t : Tg) (e : Den) : DenS := fun lv ρ S => (e lv ρ S).bindS ρ fun d S1 => match tgD t d ρ with
  | some ρ1 => .ok (.nx ρ1) S1
  | none => .no
theorem asg_step {t : Tg} (h : semS w EX lv (sAsg t de) Dn σ H) : semE w EX lv de σ H (fun x H1 => semG w t x σ H1 Dn.nx) := by
  obtain ⟨ρ, S, ι, he, hs, hw⟩ := h
  refine stepES he hs hw fun x S1 v H1 ι1 l1 s1 r1 e1 h1 => ?_
  cases e : tgD t x ρ with
  | none => rw [e] at h1; exact h1.elim
  | some ρ1 =>
    rw [e] at h1
    exact ⟨ρ, ι1, x, ρ1, e1, r1, e, fun σ' e2 _ => h1 σ' H1 ι1 (Le.refl _ _) s1 e2⟩
theorem sd_asg {tg : Expr} {t : Tg} (ha : PE X e (semE w EX lv de)) (hg : PG X tg (semG w t)) (hs : swapsWithSole [tg] e pos.line X.env = pure false) (hw : swappedStores [tg] e X.env = pure none) (h1 : (assignEach [tg] X.env).map (·.2) = [assign tg X.env]) :
    PS X (.Assign [tg] e pos) (semS w EX lv (sAsg t de)) := PS.imp (ps_asg ha hg hs hw h1) fun Dn σ H h => asg_step h
/-- o[i] = e -/
def setD (o i v : D) (S : Sto) : R Unit := match o, i with
  | .ref r, .int k => match S[r]? with
    | some (.lst true xs) => match ixN xs.length k with
      | some j => .ok () (S.set r (.lst true (xs.set j v)))
      | none => .no
    | _ => .no
  | _, _ => .no
def sSub (o i e : Den) : DenS := fun lv ρ S => (e lv ρ S).bindS ρ fun v S1 => (o lv ρ S1).bindS ρ fun x S2 => (i lv ρ S2).bindS ρ fun y S3 => (setD x y v S3).bindS ρ fun _ S4 => .ok (.nx ρ) S4
theorem sd_sub {tabs : List Addr} {o i : Expr} {dox di : Den} {p2 : Pos} (ho : PE X o (semE ⟨X.K, tabs⟩ EX lv dox)) (hi : PE X i (semE ⟨X.K, tabs⟩ EX lv di)) (ha : PE X e (semE ⟨X.K, tabs⟩ EX lv de))
    (hasg : ∀ v, assign (.Subscript o i p2) X.env v = (do
      let ov ← holding [v] (eval o X.env)
      let iv ← holding [v, ov] (eval i X.env)
      standAt p2
      holding [v, ov, iv] (setItem ov iv v)
      release [v, ov, iv] [])) (hs : swapsWithSole [.Subscript o i p2] e pos.line X.env = pure false) (hw : swappedStores [.Subscript o i p2] e X.env = pure none) (h1 : (assignEach [.Subscript o i p2] X.env).map (·.2) = [assign (.Subscript o i p2) X.env]) :
    PS X (.Assign [.Subscript o i p2] e pos) (semS ⟨X.K, tabs⟩ EX lv (sSub dox di de)) := PS.imp (ps_asg ha (pg_sub ho hi set_list hasg) hs hw h1) fun Dn σ H h => by
  obtain ⟨ρ, S, ι, he, hs, hw⟩ := h
  refine stepES he hs hw fun d S1 v H1 ι1 l1 s1 r1 e1 h1 => ?_
  refine stepES e1 s1 h1 fun x S2 vx H2 ι2 l2 s2 r2 e2 h2 => ?_
  refine stepES e2 s2 h2 fun y S3 vy H3 ι3 l3 s3 r3 e3 h3 => ?_
  have rd := Rep.mono (l2.trans l3) d v r1
  have rx := Rep.mono l3 x vx r2
  unfold setD at h3
  split at h3
  · rename_i r k
    split at h3
    · rename_i xs e5
      split at h3
      · rename_i j ej
        obtain ⟨a, rfl, hA⟩ := rx
        cases r3
        obtain ⟨vs, kk, l⟩ := s3.obj r _ a e5 hA
        obtain ⟨s4, l4⟩ := put_lst s3 e5 hA (l.set rd j)
        exact ⟨a, vs, k, j, rfl, rfl, kk, by rw [← l.len]; exact ej, h3 σ _ ι3 l4 s4 (e3.mono l4)⟩
      · exact h3.elim
    · exact h3.elim
  · exact h3.elim
/-- x op= e -/
def sAug (i : Nat) (o : Op2) (e : Den) : DenS := fun lv ρ S => match ρ[i]? with
  | some (some x) => (e lv ρ S).bindS ρ fun y S1 => (quiet (o x y S1)).bindS ρ fun z S2 => .ok (.nx (ρ.set i (some z))) S2
  | _ => .no
theorem sd_aug {i : Nat} {x : Str} {op : Operator} {o : Op2} {pos' : Pos} (hN : X.N.Nodup) (hi : X.N[i]? = some x) (hx : Loc X.env.scope x) (ha : PE X e (semE w EX lv de)) (ho : PIp X op (rOp w o)) (hf : X.fn x = true ∨ X.env.scope.names.lookup x = some .local) :
    PS X (.AugAssign (.Name x pos') op e pos) (semS w EX lv (sAug i o de)) := PS.imp (ps_aug hN hi hx ha ho hf) fun Dn σ H h => by
  obtain ⟨ρ, S, ι, he, hs, hw⟩ := h
  unfold sAug at hw
  split at hw
  · rename_i d e0
    obtain ⟨v, h1, h2⟩ := he.2 i d e0
    refine ⟨v, h1, stepES he hs hw fun y S1 vy H1 ι1 l1 s1 r1 e1 h3 => ?_⟩
    refine ⟨S1, ι1, d, y, s1, Rep.mono l1 d v h2, r1, ?_⟩
    cases e4 : o d y S1 with
    | ok z S2 =>
      rw [e4] at h3
      exact fun vz H2 ι2 l2 s2 r2 => h3 _ H2 ι2 l2 s2 ((e1.mono l2).set r2)
    | ex c S2 => rw [e4] at h3; exact h3.elim
    | no => rw [e4] at h3; exact h3.elim
  · exact hw.elim
end
end Dv

/-! ### zip and enumerate of lists and tuples in any mix, the items in new tuples that are known -/
namespace Zy
open PySem PySem.Spec PyProof.Rows L2
/-- a list (true) or a tuple -/
def Sq (k : Bool) (K : PySem.W.Frag) (H : Hp) (a : Addr) (xs : List V) : Prop := match k with
  | true => SqL K H a xs
  | false => SqT K H a xs
/-- its iterator stands ahead of i -/
def Aim (k : Bool) (h : Heap) (it a : Addr) (i : Nat) : Prop := match k with
  | true => h.IsListIter it a i
  | false => h.IsTupleIter it a i
def Cont (k : Bool) (h : Heap) (a : Addr) (us : List Value) : Prop := match k with
  | true => h.IsList a us.toArray
  | false => h.IsTuple a us.toArray
def itO (k : Bool) (a : Addr) : Obj := { cls := .type (if k = true then "list_iterator" else "tuple_iterator"), data := .fields #[.ref a, .int 0 0] }
theorem Aim.at {k : Bool} {h h' : Heap} {it a : Addr} {i : Nat} (p : Aim k h it a i) (e : ∀ o, h.get? it = some o → h'.get? it = some o) : Aim k h' it a i := by
  cases k with
  | true => exact Heap.IsListIter.at p e
  | false => exact Heap.IsTupleIter.at p e
theorem Aim.obj {k : Bool} {h : Heap} {it a : Addr} {i : Nat} (p : Aim k h it a i) : ∃ o, h.get? it = some o ∧ ∀ v, o.data ≠ .cell v := by
  cases k with
  | true => obtain ⟨o, e, _, d⟩ := p; exact ⟨o, e, fun _ z => by rw [d] at z; cases z⟩
  | false => obtain ⟨o, e, _, d⟩ := p; exact ⟨o, e, fun _ z => by rw [d] at z; cases z⟩
theorem Aim.lt {k : Bool} {h : Heap} {it a : Addr} {i : Nat} (p : Aim k h it a i) : it < h.objs.size := by
  obtain ⟨o, e, _⟩ := p.obj; exact Heap.lt_size e
section
variable {X : Cx} {pins : List (Addr × Obj)} {σ : L2.St} {H : Hp} {s : Shared} {k : Bool} {a : Addr} {xs ys : List V}
theorem read (I : Inv X pins σ H s) (h : Sq k X.K H a xs) : ∃ us : List Value, Vals xs us ∧ Cont k s.heap a us := by
  cases k with
  | true => obtain ⟨us, r, p, _⟩ := I.list h; exact ⟨us, r, p.isList⟩
  | false => obtain ⟨us, r, p, _⟩ := I.tuple h; exact ⟨us, r, p⟩
theorem inj (I : Inv X pins σ H s) (h : Sq k X.K H a xs) (g : Sq k X.K H a ys) : xs = ys := by
  cases k with
  | true => exact I.list_inj h g
  | false => exact I.tuple_inj h g
theorem Cont.lt {h : Heap} {us : List Value} (c : Cont k h a us) : a < h.objs.size := by
  cases k with
  | true => obtain ⟨o, e, _⟩ := c; exact Heap.lt_size e
  | false => obtain ⟨o, e, _⟩ := c; exact Heap.lt_size e
theorem draws {A : Around} (hh : A.handled = none) (it : Addr) (n : a ≠ it) (us : List Value) : Draws X.prog X.w A it [it, a] us.length (fun i v => us[i]? = some v) (fun i h => Aim k h it a i ∧ Cont k h a us) := by
  cases k with
  | true => have d := Draws.list (prog := X.prog) (w := X.w) hh it a n us.toArray; simpa [Aim, Cont] using d
  | false => have d := Draws.tuple (prog := X.prog) (w := X.w) hh it a n us.toArray; simpa [Aim, Cont] using d
theorem begins (us : List Value) : Begins (.ref a) (itO k a) fun h => Cont k h a us := by
  cases k with
  | true => exact begins_list a us.toArray
  | false => exact begins_tuple a us.toArray
theorem Aim.new {h : Heap} {it : Addr} (e : h.get? it = some (itO k a)) : Aim k h it a 0 := by
  cases k with
  | true => exact ⟨_, e, rfl, rfl⟩
  | false => exact ⟨_, e, rfl, rfl⟩
end
/-! two at once -/
def It2 (k1 k2 : Bool) (K : PySem.W.Frag) (a b : Addr) : It :=
  ⟨fun i H => ∃ (xs ys : List V) (x y : V), Sq k1 K H a xs ∧ Sq k2 K H b ys ∧ xs[i]? = some x ∧ ys[i]? = some y,
    fun i H v H' => ∃ T us x y, v = .ref T ∧ H T = none ∧ H' = upd H T (Fz.fz us [x, y]) ∧ (∀ xs, Sq k1 K H a xs → xs[i]? = some x) ∧ ∀ ys, Sq k2 K H b ys → ys[i]? = some y,
    fun i H => ∃ xs ys : List V, Sq k1 K H a xs ∧ Sq k2 K H b ys ∧ i ≤ xs.length ∧ i ≤ ys.length ∧ (xs.length ≤ i ∨ ys.length ≤ i)⟩
structure Z2 (k1 k2 : Bool) (a b z TI TO i1 i2 : Addr) (i : Nat) (h : Heap) : Prop where
  zz : IsZip h z TI TO .none
  ti : IsTupOf2 h TI (.ref i1) (.ref i2)
  to : ∃ x y, IsTupOf2 h TO x y
  p1 : Aim k1 h i1 a i
  p2 : Aim k2 h i2 b i
theorem mem5 {c z TI TO i1 i2 : Addr} (h : c ∈ [z, TI, TO, i1, i2]) : c = z ∨ c = TI ∨ c = TO ∨ c = i1 ∨ c = i2 := by simpa using h
theorem Z2.at {k1 k2 : Bool} {a b z TI TO i1 i2 : Addr} {i : Nat} {h h' : Heap} (st : Z2 k1 k2 a b z TI TO i1 i2 i h) (g : ∀ c ∈ [z, TI, TO, i1, i2], ∀ o, h.get? c = some o → h'.get? c = some o) : Z2 k1 k2 a b z TI TO i1 i2 i h' := by
  obtain ⟨zz, ti, ⟨x, y, to⟩, p1, p2⟩ := st
  exact ⟨g z (by simp) _ zz, g TI (by simp) _ ti, ⟨x, y, g TO (by simp) _ to⟩, p1.at (g i1 (by simp)), p2.at (g i2 (by simp))⟩
theorem Z2.lt {k1 k2 : Bool} {a b z TI TO i1 i2 : Addr} {i : Nat} {h : Heap} (st : Z2 k1 k2 a b z TI TO i1 i2 i h) {c : Addr} (hc : c ∈ [z, TI, TO, i1, i2]) : c < h.objs.size := by
  obtain ⟨zz, ti, ⟨x, y, to⟩, p1, p2⟩ := st
  rcases mem5 hc with rfl | rfl | rfl | rfl | rfl
  · exact Heap.lt_size zz
  · exact Heap.lt_size ti
  · exact Heap.lt_size to
  · exact p1.lt
  · exact p2.lt
/-! three at once -/
def It3 (k1 k2 k3 : Bool) (K : PySem.W.Frag) (a b c : Addr) : It :=
  ⟨fun i H => ∃ (xs ys zs : List V) (x y z : V), Sq k1 K H a xs ∧ Sq k2 K H b ys ∧ Sq k3 K H c zs ∧ xs[i]? = some x ∧ ys[i]? = some y ∧ zs[i]? = some z,
    fun i H v H' => ∃ T us x y z, v = .ref T ∧ H T = none ∧ H' = upd H T (Fz.fz us [x, y, z]) ∧ (∀ xs, Sq k1 K H a xs → xs[i]? = some x) ∧ (∀ ys, Sq k2 K H b ys → ys[i]? = some y) ∧ ∀ zs, Sq k3 K H c zs → zs[i]? = some z,
    fun i H => ∃ xs ys zs : List V, Sq k1 K H a xs ∧ Sq k2 K H b ys ∧ Sq k3 K H c zs ∧ i ≤ xs.length ∧ i ≤ ys.length ∧ i ≤ zs.length ∧ (xs.length ≤ i ∨ ys.length ≤ i ∨ zs.length ≤ i)⟩
structure Z3 (k1 k2 k3 : Bool) (a b c z TI TO i1 i2 i3 : Addr) (i : Nat) (h : Heap) : Prop where
  zz : IsZip h z TI TO .none
  ti : IsTupOf3 h TI (.ref i1) (.ref i2) (.ref i3)
  to : ∃ x y u, IsTupOf3 h TO x y u
  p1 : Aim k1 h i1 a i
  p2 : Aim k2 h i2 b i
  p3 : Aim k3 h i3 c i
theorem mem6 {c z TI TO i1 i2 i3 : Addr} (h : c ∈ [z, TI, TO, i1, i2, i3]) : c = z ∨ c = TI ∨ c = TO ∨ c = i1 ∨ c = i2 ∨ c = i3 := by simpa using h
theorem Z3.at {k1 k2 k3 : Bool} {a b c z TI TO i1 i2 i3 : Addr} {i : Nat} {h h' : Heap} (st : Z3 k1 k2 k3 a b c z TI TO i1 i2 i3 i h) (g : ∀ c ∈ [z, TI, TO, i1, i2, i3], ∀ o, h.get? c = some o → h'.get? c = some o) : Z3 k1 k2 k3 a b c z TI TO i1 i2 i3 i h' := by
  obtain ⟨zz, ti, ⟨x, y, u, to⟩, p1, p2, p3⟩ := st
  exact ⟨g z (by simp) _ zz, g TI (by simp) _ ti, ⟨x, y, u, g TO (by simp) _ to⟩, p1.at (g i1 (by simp)), p2.at (g i2 (by simp)), p3.at (g i3 (by simp))⟩
theorem Z3.lt {k1 k2 k3 : Bool} {a b c z TI TO i1 i2 i3 : Addr} {i : Nat} {h : Heap} (st : Z3 k1 k2 k3 a b c z TI TO i1 i2 i3 i h) {d : Addr} (hc : d ∈ [z, TI, TO, i1, i2, i3]) : d < h.objs.size := by
  obtain ⟨zz, ti, ⟨x, y, u, to⟩, p1, p2, p3⟩ := st
  rcases mem6 hc with rfl | rfl | rfl | rfl | rfl | rfl
  · exact Heap.lt_size zz
  · exact Heap.lt_size ti
  · exact Heap.lt_size to
  · exact p1.lt
  · exact p2.lt
  · exact p3.lt
/-! numbered -/
def ItE (k : Bool) (K : PySem.W.Frag) (a : Addr) : It :=
  ⟨fun i H => ∃ (xs : List V) (x : V), Sq k K H a xs ∧ xs[i]? = some x, fun i H v H' => ∃ T us x, v = .ref T ∧ H T = none ∧ H' = upd H T (Fz.fz us [.int (i : Nat), x]) ∧ ∀ xs, Sq k K H a xs → xs[i]? = some x, fun i H => ∃ xs : List V, Sq k K H a xs ∧ i = xs.length⟩
structure En (k : Bool) (a e t i : Nat) (m : Heap) : Prop where
  en : ∃ w, IsEnum m e t (i : Int) w
  it : Aim k m t a i
theorem mem2 {b x y : Addr} (h : b ∈ [x, y]) : b = x ∨ b = y := by simpa using h
theorem En.lt {k : Bool} {m : Heap} {a e t i b : Nat} (h : En k a e t i m) (hb : b ∈ [e, t]) : b < m.objs.size := by
  obtain ⟨w, g⟩ := h.en
  rcases mem2 hb with rfl | rfl
  · exact Heap.lt_size g
  · exact h.it.lt
/-! where they begin -/
section
variable {X : Cx} {e e2 e3 : Expr} {ta : TA} {p pos tpos : Pos} {elts : List Expr} {kk : Nat}
theorem one_lt {a n : Addr} (h : a < n) : ∀ b ∈ [a], b < n := fun b hb => List.mem_singleton.mp hb ▸ h
end
end Zy

namespace Dv
open PySem PySem.Spec PyProof.Rows L2

/-- what is walked: a range, a tuple, a list of the store -/
inductive Src where
  | rng (lo : Int) (n : Nat) | tup (xs : List D) | lst (i : Nat) (w : Bool) (xs : List D) | zipT (xs ys : List D) | zipL (i j : Nat) (w v : Bool) (xs ys : List D) | enu (i : Nat) (w : Bool) (xs : List D) | enuT (xs : List D)
  | zip3 (i j k : Nat) (xs ys zs : List D)
  | zTL (j : Nat) (v : Bool) (xs ys : List D) | zLT (i : Nat) (w : Bool) (xs ys : List D)
/-- two things at once -/
def pr2 (p : D × D) : D := .tup [p.1, p.2]
def tr3 (p : D × D × D) : D := .tup [p.1, p.2.1, p.2.2]
def numb (xs : List D) : List D := (List.range xs.length).zipWith (fun k x => .tup [.int (k : Nat), x]) xs
def Src.items : Src → List D
  | .rng lo n => (List.range n).map fun k => .int (lo + (k : Nat))
  | .tup xs => xs
  | .lst _ _ xs => xs
  | .zipT xs ys => (xs.zip ys).map pr2
  | .zipL _ _ _ _ xs ys => (xs.zip ys).map pr2
  | .enu _ _ xs => numb xs
  | .enuT xs => numb xs
  | .zip3 _ _ _ xs ys zs => (xs.zip (ys.zip zs)).map tr3
  | .zTL _ _ xs ys => (xs.zip ys).map pr2
  | .zLT _ _ xs ys => (xs.zip ys).map pr2
/-- a list that is walked stays as it is -/
def Src.chk : Src → Sto → Prop
  | .lst i w xs, S => S[i]? = some (.lst w xs)
  | .zipL i j w v xs ys, S => S[i]? = some (.lst w xs) ∧ S[j]? = some (.lst v ys)
  | .enu i w xs, S => S[i]? = some (.lst w xs)
  | .zip3 i j k xs ys zs, S => S[i]? = some (.lst true xs) ∧ S[j]? = some (.lst true ys) ∧ S[k]? = some (.lst true zs)
  | .zTL j v _ ys, S => S[j]? = some (.lst v ys)
  | .zLT i w xs _, S => S[i]? = some (.lst w xs)
  | _, _ => True
abbrev DenI := Lv → Env → Sto → R Src
def ItOf (w : Wn) (ι : List Addr) (H : Hp) : Src → It → Prop
  | .rng lo n, J => J = Itr lo n
  | .tup xs, J => ∃ a vs, SqN w.K H a vs ∧ RepL w.K ι H xs vs ∧ J = Itt w.K a
  | .lst i _ _, J => ∃ a, ι[i]? = some a ∧ J = Itl w.K a
  | .zipT xs ys, J => ∃ a b vs us, SqN w.K H a vs ∧ RepL w.K ι H xs vs ∧ SqN w.K H b us ∧ RepL w.K ι H ys us ∧ J = Zy.It2 false false w.K a b
  | .zipL i j _ _ _ _, J => ∃ a b, ι[i]? = some a ∧ ι[j]? = some b ∧ J = Zy.It2 true true w.K a b
  | .zip3 i j k _ _ _, J => ∃ a b c, ι[i]? = some a ∧ ι[j]? = some b ∧ ι[k]? = some c ∧ J = Zy.It3 true true true w.K a b c
  | .enu i _ _, J => ∃ a, ι[i]? = some a ∧ J = Zy.ItE true w.K a
  | .enuT xs, J => ∃ a vs, SqN w.K H a vs ∧ RepL w.K ι H xs vs ∧ J = Zy.ItE false w.K a
  | .zTL j _ xs _, J => ∃ a b vs, SqN w.K H a vs ∧ RepL w.K ι H xs vs ∧ ι[j]? = some b ∧ J = Zy.It2 false true w.K a b
  | .zLT i _ _ ys, J => ∃ a b us, ι[i]? = some a ∧ SqN w.K H b us ∧ RepL w.K ι H ys us ∧ J = Zy.It2 true false w.K a b
def PI1 (w : Wn) (ι : List Addr) (H : Hp) (Rr : It → Hp → Prop) : Src → Sto → Prop := fun src S' => ∀ H' ι' J, Le ι H ι' H' → SRep w.K w.tabs ι' S' H' → src.chk S' → ItOf w ι' H' src J → Rr J H'
def semI (w : Wn) (EX : EXT) (lv : Lv) (d : DenI) : TI := fun σ H Rr => ∃ ρ S ι, ERep w.K ι H ρ σ ∧ SRep w.K w.tabs ι S H ∧ (d lv ρ S).wp (PI1 w ι H Rr) (PX w EX ι H σ)
def iRange1 (a : DenA) : DenI := fun lv ρ S => (a lv ρ S).bind fun xs S1 => match xs with
  | [.int j] => if -4611686018427387904 ≤ j ∧ j < 4611686018427387904 then .ok (.rng 0 j.toNat) S1 else .no
  | _ => .no
def iRange2 (a : DenA) : DenI := fun lv ρ S => (a lv ρ S).bind fun xs S1 => match xs with
  | [.int i, .int j] => if -4611686018427387904 ≤ i ∧ i < 4611686018427387904 ∧ -4611686018427387904 ≤ j ∧ j < 4611686018427387904 then .ok (.rng i (j - i).toNat) S1 else .no
  | _ => .no
def iVal (a : Den) : DenI := fun lv ρ S => (a lv ρ S).bind fun x S1 => match x with
  | .tup xs => .ok (.tup xs) S1
  | .ref i => match S1[i]? with
    | some (.lst w xs) => .ok (.lst i w xs) S1
    | _ => .no
  | _ => .no
section
variable {X : Cx} {w : Wn} {EX : EXT} {lv : Lv} {σ : L2.St} {H : Hp} {ρ : Env} {S : Sto} {ι : List Addr} {Dn : Ends} {e tg iter : Expr} {de : Den} {p pos : Pos}
theorem PI.imp {t t' : TI} (h : PI X tg e t) (i : ∀ σ H Q, t' σ H Q → t σ H Q) : PI X tg e t' := ⟨fun pins s σ H Q I q => h.run pins s σ H Q I (i σ H Q q)⟩
theorem id_range1 {a : Expr} {ra : DenA} (hg : Gl X "range") (hm : X.mg "range" = none) (ha : PA X [a] (semA w EX lv ra)) (hs : starEach [a] X.env = [(false, eval a X.env)]) : PI X tg (.Call (.Name "range" p) [a] [] pos) (semI w EX lv (iRange1 ra)) :=
  PI.imp (pi_range1 hg hm ha hs) fun σ H Rr h => by
    obtain ⟨ρ, S, ι, he, hs, hw⟩ := h
    refine stepA (Po := fun ι H => PI1 w ι H Rr) he hs (fun l q H' ι' J l' => q H' ι' J (l.trans l')) hw fun xs S1 vs H1 ι1 l1 s1 r1 e1 h1 => ?_
    split at h1
    · rename_i j
      obtain ⟨v, rfl, q⟩ := repl1 r1
      cases q
      split at h1
      · rename_i hc
        exact ⟨j, rfl, by omega, by omega, h1 H1 ι1 _ (Le.refl _ _) s1 trivial rfl⟩
      · exact h1.elim
    · exact h1.elim
theorem id_range2 {a b : Expr} {ra : DenA} (hg : Gl X "range") (hm : X.mg "range" = none) (ha : PA X [a, b] (semA w EX lv ra)) (hs : starEach [a, b] X.env = [(false, eval a X.env), (false, eval b X.env)]) (hs2 : starEach [b] X.env = [(false, eval b X.env)]) :
    PI X tg (.Call (.Name "range" p) [a, b] [] pos) (semI w EX lv (iRange2 ra)) :=
  PI.imp (pi_range2 hg hm ha hs hs2) fun σ H Rr h => by
    obtain ⟨ρ, S, ι, he, hs, hw⟩ := h
    refine stepA (Po := fun ι H => PI1 w ι H Rr) he hs (fun l q H' ι' J l' => q H' ι' J (l.trans l')) hw fun xs S1 vs H1 ι1 l1 s1 r1 e1 h1 => ?_
    split at h1
    · rename_i i j
      obtain ⟨v, u, rfl, q1, q2⟩ := repl2 r1
      cases q1; cases q2
      split at h1
      · rename_i hc
        exact ⟨i, j, rfl, ⟨by omega, by omega, by omega, by omega⟩, h1 H1 ι1 _ (Le.refl _ _) s1 trivial rfl⟩
      · exact h1.elim
    · exact h1.elim
/-- any value that may be walked -/
theorem id_val {tabs : List Addr} (ha : PE X e (semE ⟨X.K, tabs⟩ EX lv de)) : PI X tg e (semI ⟨X.K, tabs⟩ EX lv (iVal de)) := by
  refine ⟨fun pins s σ H Rr I h => ?_⟩
  obtain ⟨ρ, S, ι, he, hs, hw⟩ := h
  refine thn (ha.run pins s σ H (fun v H1 => (∃ a, v = V.ref a ∧ (∃ xs, SqL X.K H1 a xs) ∧ Rr (Itl X.K a) H1) ∨ ∃ a, v = V.ref a ∧ (∃ xs, SqT X.K H1 a xs) ∧ Rr (Itt X.K a) H1) I
    (stepE (Po := fun ι H => PI1 ⟨X.K, tabs⟩ ι H Rr) he hs (fun l q H' ι' J l' => q H' ι' J (l.trans l')) hw fun x S1 v H1 ι1 l1 s1 r1 e1 h1 => ?_)) fun v s1 h1 => ?_
  · cases x <;> first | exact False.elim h1 | skip
    · rename_i xs
      obtain ⟨a, vs, rfl, q, l⟩ := r1
      exact .inr ⟨a, rfl, ⟨vs, q.t⟩, h1 H1 ι1 _ (Le.refl _ _) s1 trivial ⟨a, vs, q, l, rfl⟩⟩
    · rename_i i
      obtain ⟨a, rfl, hA⟩ := r1
      dsimp only at h1
      split at h1
      · rename_i w xs e5
        obtain ⟨a', vs, ha', hq, l⟩ := s1.list e5
        rw [hA] at ha'
        cases ha'
        exact .inl ⟨a, rfl, ⟨vs, hq⟩, h1 H1 ι1 _ (Le.refl _ _) s1 e5 ⟨a, hA, rfl⟩⟩
      · exact h1.elim
  · obtain ⟨x, H1, I1, r1, h2⟩ := h1
    rcases h2 with ⟨a, rfl, ⟨xs, hq⟩, q⟩ | ⟨a, rfl, ⟨xs, hq⟩, q⟩
    · cases r1
      obtain ⟨its, rv, pl, hz⟩ := I1.list hq
      refine wpAny_pyIter_list pl.isList ?_
      refine ⟨s1.heap.objs.size, [s1.heap.objs.size], _, _, H1, rfl, I1.kept (t' := s1.toks) fun b o e => Heap.get?_push_of_some _ e, turn_list a _, ⟨_, Heap.get?_push_size _ rfl, rfl, rfl⟩, fun b hb => ?_, q⟩
      rw [List.mem_singleton.mp hb]
      exact I1.fpOk (Nat.le_refl _) (I1.hok.fresh (Nat.le_refl _))
    · cases r1
      obtain ⟨its, rv, pl, hz⟩ := I1.tuple hq
      refine wpAny_pyIter_tuple (show s1.heap.IsTuple a its.toArray from pl) ?_
      refine ⟨s1.heap.objs.size, [s1.heap.objs.size], _, _, H1, rfl, I1.kept (t' := s1.toks) fun b o e => Heap.get?_push_of_some _ e, turn_tuple a _, ⟨_, Heap.get?_push_size _ rfl, rfl, rfl⟩, fun b hb => ?_, q⟩
      rw [List.mem_singleton.mp hb]
      exact I1.fpOk (Nat.le_refl _) (I1.hok.fresh (Nat.le_refl _))

theorem zip_at {xs ys : List D} {i : Nat} {d : D} (h : ((xs.zip ys).map pr2)[i]? = some d) : ∃ x y, xs[i]? = some x ∧ ys[i]? = some y ∧ d = .tup [x, y] := by
  rw [List.getElem?_map] at h
  obtain ⟨p, h1, h2⟩ := Option.map_eq_some_iff.mp h
  rw [List.getElem?_zip_eq_some] at h1
  exact ⟨p.1, p.2, h1.1, h1.2, h2.symm⟩
theorem numb_at {xs : List D} {i : Nat} {d : D} (h : (numb xs)[i]? = some d) : ∃ x, xs[i]? = some x ∧ d = .tup [.int (i : Nat), x] := by
  unfold numb at h
  rw [List.getElem?_zipWith] at h
  have hi : i < xs.length := by
    rcases Nat.lt_or_ge i xs.length with z | z
    · exact z
    · rw [List.getElem?_eq_none (l := xs) z] at h
      simp at h
  rw [List.getElem?_range hi, List.getElem?_eq_getElem hi] at h
  cases h
  exact ⟨_, List.getElem?_eq_getElem hi, rfl⟩
theorem pair_new {T : Addr} {us : List Value} {d1 d2 : D} {x y : V} (hs : SRep w.K w.tabs ι S H) (hT : H T = none) (r1 : Rep w.K ι H d1 x) (r2 : Rep w.K ι H d2 y) : Le ι H ι (upd H T (Fz.fz us [x, y])) ∧ SRep w.K w.tabs ι S (upd H T (Fz.fz us [x, y])) ∧ Rep w.K ι (upd H T (Fz.fz us [x, y])) (.tup [d1, d2]) (.ref T) :=
  ⟨le_upd hT, hs.extra hT, repT hT ⟨x, [y], rfl, r1, y, [], rfl, r2, rfl⟩⟩
theorem three_new {T : Addr} {us : List Value} {d1 d2 d3 : D} {x y z : V} (hs : SRep w.K w.tabs ι S H) (hT : H T = none) (r1 : Rep w.K ι H d1 x) (r2 : Rep w.K ι H d2 y) (r3 : Rep w.K ι H d3 z) : Le ι H ι (upd H T (Fz.fz us [x, y, z])) ∧ SRep w.K w.tabs ι S (upd H T (Fz.fz us [x, y, z])) ∧ Rep w.K ι (upd H T (Fz.fz us [x, y, z])) (.tup [d1, d2, d3]) (.ref T) :=
  ⟨le_upd hT, hs.extra hT, repT hT ⟨x, [y, z], rfl, r1, y, [z], rfl, r2, z, [], rfl, r3, rfl⟩⟩
theorem zip3_at {xs ys zs : List D} {i : Nat} {d : D} (h : ((xs.zip (ys.zip zs)).map tr3)[i]? = some d) : ∃ x y z, xs[i]? = some x ∧ ys[i]? = some y ∧ zs[i]? = some z ∧ d = .tup [x, y, z] := by
  rw [List.getElem?_map] at h
  obtain ⟨p, h1, h2⟩ := Option.map_eq_some_iff.mp h
  rw [List.getElem?_zip_eq_some, List.getElem?_zip_eq_some] at h1
  exact ⟨p.1, p.2.1, p.2.2, h1.1, h1.2.1, h1.2.2, h2.symm⟩
/-- the turns of a walk: where an item is left, it comes; where none is, it stops -/
theorem it_go {src : Src} {J : It} {ι0 : List Addr} {H0 : Hp} {i : Nat} {d : D} (hJ : ItOf w ι0 H0 src J) (l : Le ι0 H0 ι H) (hs : SRep w.K w.tabs ι S H) (hc : src.chk S) (hd : src.items[i]? = some d) :
    J.go i H ∧ ∀ x H', J.yld i H x H' → Le ι H ι H' ∧ SRep w.K w.tabs ι S H' ∧ Rep w.K ι H' d x := by
  cases src with
  | rng lo n =>
    cases hJ
    unfold Src.items at hd
    have hi : i < n := by
      have := (List.getElem?_eq_some_iff.mp hd).1
      simpa using this
    rw [List.getElem?_map, List.getElem?_range hi] at hd
    cases hd
    exact ⟨hi, fun x H' y => by obtain ⟨rfl, rfl⟩ := y; exact ⟨Le.refl _ _, hs, rfl⟩⟩
  | tup xs =>
    obtain ⟨a, vs, q, r, rfl⟩ := hJ
    have q2 := (l.sn q).t
    have r2 := RepL.mono l _ _ r
    obtain ⟨v, h1, h2⟩ := r2.get hd
    refine ⟨⟨vs, v, q2, h1⟩, fun x H' y => ?_⟩
    obtain ⟨e1, e2⟩ := y
    have e3 := e2 vs q2
    rw [h1] at e3
    cases e3
    subst e1
    exact ⟨Le.refl _ _, hs, h2⟩
  | lst j b xs =>
    obtain ⟨a, hA, rfl⟩ := hJ
    obtain ⟨a', vs, ha', hq, r⟩ := hs.list (show S[j]? = some (.lst b xs) from hc)
    rw [l.ix j a hA] at ha'
    cases ha'
    obtain ⟨v, h1, h2⟩ := r.get hd
    refine ⟨⟨vs, v, hq, h1⟩, fun x H' y => ?_⟩
    obtain ⟨e1, e2⟩ := y
    have e3 := e2 vs hq
    rw [h1] at e3
    cases e3
    subst e1
    exact ⟨Le.refl _ _, hs, h2⟩
  | zipT xs ys =>
    obtain ⟨a, b, vs, us, q1, r1, q2, r2, rfl⟩ := hJ
    obtain ⟨x, y, h1, h2, rfl⟩ := zip_at hd
    obtain ⟨v, v1, v2⟩ := (RepL.mono l _ _ r1).get h1
    obtain ⟨u, u1, u2⟩ := (RepL.mono l _ _ r2).get h2
    refine ⟨⟨vs, us, v, u, (l.sn q1).t, (l.sn q2).t, v1, u1⟩, fun z H' y => ?_⟩
    obtain ⟨T, _, x', y', rfl, hT, rfl, e1, e2⟩ := y
    have e3 := e1 vs (l.sn q1).t
    have e4 := e2 us (l.sn q2).t
    rw [v1] at e3
    rw [u1] at e4
    cases e3; cases e4
    exact pair_new hs hT v2 u2
  | zipL j j2 w1 w2 xs ys =>
    obtain ⟨a, b, hA, hB, rfl⟩ := hJ
    obtain ⟨x, y, h1, h2, rfl⟩ := zip_at hd
    obtain ⟨a', vs, ha', q1, r1⟩ := hs.list hc.1
    obtain ⟨b', us, hb', q2, r2⟩ := hs.list hc.2
    rw [l.ix j a hA] at ha'
    rw [l.ix j2 b hB] at hb'
    cases ha'; cases hb'
    obtain ⟨v, v1, v2⟩ := r1.get h1
    obtain ⟨u, u1, u2⟩ := r2.get h2
    refine ⟨⟨vs, us, v, u, q1, q2, v1, u1⟩, fun z H' y => ?_⟩
    obtain ⟨T, _, x', y', rfl, hT, rfl, e1, e2⟩ := y
    have e3 := e1 vs q1
    have e4 := e2 us q2
    rw [v1] at e3
    rw [u1] at e4
    cases e3; cases e4
    exact pair_new hs hT v2 u2
  | enu j w1 xs =>
    obtain ⟨a, hA, rfl⟩ := hJ
    obtain ⟨x, h1, rfl⟩ := numb_at hd
    obtain ⟨a', vs, ha', q1, r1⟩ := hs.list (show S[j]? = some (.lst w1 xs) from hc)
    rw [l.ix j a hA] at ha'
    cases ha'
    obtain ⟨v, v1, v2⟩ := r1.get h1
    refine ⟨⟨vs, v, q1, v1⟩, fun z H' y => ?_⟩
    obtain ⟨T, _, x', rfl, hT, rfl, e1⟩ := y
    have e3 := e1 vs q1
    rw [v1] at e3
    cases e3
    exact pair_new (d1 := .int (i : Nat)) hs hT rfl v2
  | enuT xs =>
    obtain ⟨a, vs, q1, r1, rfl⟩ := hJ
    obtain ⟨x, h1, rfl⟩ := numb_at hd
    obtain ⟨v, v1, v2⟩ := (RepL.mono l _ _ r1).get h1
    refine ⟨⟨vs, v, (l.sn q1).t, v1⟩, fun z H' y => ?_⟩
    obtain ⟨T, _, x', rfl, hT, rfl, e1⟩ := y
    have e3 := e1 vs (l.sn q1).t
    rw [v1] at e3
    cases e3
    exact pair_new (d1 := .int (i : Nat)) hs hT rfl v2
  | zip3 j1 j2 j3 xs ys zs =>
    obtain ⟨a, b, c, hA, hB, hC, rfl⟩ := hJ
    obtain ⟨x, y, z, h1, h2, h3, rfl⟩ := zip3_at hd
    obtain ⟨a', vs, ha', q1, r1⟩ := hs.list hc.1
    obtain ⟨b', us, hb', q2, r2⟩ := hs.list hc.2.1
    obtain ⟨c', ws, hc', q3, r3⟩ := hs.list hc.2.2
    rw [l.ix j1 a hA] at ha'
    rw [l.ix j2 b hB] at hb'
    rw [l.ix j3 c hC] at hc'
    cases ha'; cases hb'; cases hc'
    obtain ⟨v, v1, v2⟩ := r1.get h1
    obtain ⟨u, u1, u2⟩ := r2.get h2
    obtain ⟨t, t1, t2⟩ := r3.get h3
    refine ⟨⟨vs, us, ws, v, u, t, q1, q2, q3, v1, u1, t1⟩, fun z H' y => ?_⟩
    obtain ⟨T, _, x', y', z', rfl, hT, rfl, e1, e2, e3⟩ := y
    have f1 := e1 vs q1
    have f2 := e2 us q2
    have f3 := e3 ws q3
    rw [v1] at f1
    rw [u1] at f2
    rw [t1] at f3
    cases f1; cases f2; cases f3
    exact three_new hs hT v2 u2 t2
  | zTL j2 w2 xs ys =>
    obtain ⟨a, b, vs, q1, r1, hB, rfl⟩ := hJ
    obtain ⟨x, y, h1, h2, rfl⟩ := zip_at hd
    obtain ⟨b', us, hb', q2, r2⟩ := hs.list (show S[j2]? = some (.lst w2 ys) from hc)
    rw [l.ix j2 b hB] at hb'
    cases hb'
    obtain ⟨v, v1, v2⟩ := (RepL.mono l _ _ r1).get h1
    obtain ⟨u, u1, u2⟩ := r2.get h2
    refine ⟨⟨vs, us, v, u, (l.sn q1).t, q2, v1, u1⟩, fun z H' y => ?_⟩
    obtain ⟨T, _, x', y', rfl, hT, rfl, e1, e2⟩ := y
    have e3 := e1 vs (l.sn q1).t
    have e4 := e2 us q2
    rw [v1] at e3
    rw [u1] at e4
    cases e3; cases e4
    exact pair_new hs hT v2 u2
  | zLT j w1 xs ys =>
    obtain ⟨a, b, us, hA, q2, r2, rfl⟩ := hJ
    obtain ⟨x, y, h1, h2, rfl⟩ := zip_at hd
    obtain ⟨a', vs, ha', q1, r1⟩ := hs.list (show S[j]? = some (.lst w1 xs) from hc)
    rw [l.ix j a hA] at ha'
    cases ha'
    obtain ⟨v, v1, v2⟩ := r1.get h1
    obtain ⟨u, u1, u2⟩ := (RepL.mono l _ _ r2).get h2
    refine ⟨⟨vs, us, v, u, q1, (l.sn q2).t, v1, u1⟩, fun z H' y => ?_⟩
    obtain ⟨T, _, x', y', rfl, hT, rfl, e1, e2⟩ := y
    have e3 := e1 vs q1
    have e4 := e2 us (l.sn q2).t
    rw [v1] at e3
    rw [u1] at e4
    cases e3; cases e4
    exact pair_new hs hT v2 u2
theorem it_stop {src : Src} {J : It} {ι0 : List Addr} {H0 : Hp} (hJ : ItOf w ι0 H0 src J) (l : Le ι0 H0 ι H) (hs : SRep w.K w.tabs ι S H) (hc : src.chk S) : J.stop src.items.length H := by
  cases src with
  | rng lo n =>
    cases hJ
    show n ≤ _
    simp [Src.items]
  | tup xs =>
    obtain ⟨a, vs, q, r, rfl⟩ := hJ
    exact ⟨vs, (l.sn q).t, by rw [← r.len]; exact Nat.le_refl _⟩
  | lst j b xs =>
    obtain ⟨a, hA, rfl⟩ := hJ
    obtain ⟨a', vs, ha', hq, r⟩ := hs.list (show S[j]? = some (.lst b xs) from hc)
    rw [l.ix j a hA] at ha'
    cases ha'
    exact ⟨vs, hq, by rw [← r.len]; exact Nat.le_refl _⟩
  | zipT xs ys =>
    obtain ⟨a, b, vs, us, q1, r1, q2, r2, rfl⟩ := hJ
    refine ⟨vs, us, (l.sn q1).t, (l.sn q2).t, ?_⟩
    have z1 := r1.len
    have z2 := r2.len
    simp only [Src.items, List.length_map, List.length_zip]
    omega
  | zipL j j2 w1 w2 xs ys =>
    obtain ⟨a, b, hA, hB, rfl⟩ := hJ
    obtain ⟨a', vs, ha', q1, r1⟩ := hs.list hc.1
    obtain ⟨b', us, hb', q2, r2⟩ := hs.list hc.2
    rw [l.ix j a hA] at ha'
    rw [l.ix j2 b hB] at hb'
    cases ha'; cases hb'
    refine ⟨vs, us, q1, q2, ?_⟩
    have z1 := r1.len
    have z2 := r2.len
    simp only [Src.items, List.length_map, List.length_zip]
    omega
  | enu j w1 xs =>
    obtain ⟨a, hA, rfl⟩ := hJ
    obtain ⟨a', vs, ha', q1, r1⟩ := hs.list (show S[j]? = some (.lst w1 xs) from hc)
    rw [l.ix j a hA] at ha'
    cases ha'
    refine ⟨vs, q1, ?_⟩
    have z1 := r1.len
    simp only [Src.items, numb, List.length_zipWith, List.length_range]
    omega
  | enuT xs =>
    obtain ⟨a, vs, q1, r1, rfl⟩ := hJ
    refine ⟨vs, (l.sn q1).t, ?_⟩
    have z1 := r1.len
    simp only [Src.items, numb, List.length_zipWith, List.length_range]
    omega
  | zip3 j1 j2 j3 xs ys zs =>
    obtain ⟨a, b, c, hA, hB, hC, rfl⟩ := hJ
    obtain ⟨a', vs, ha', q1, r1⟩ := hs.list hc.1
    obtain ⟨b', us, hb', q2, r2⟩ := hs.list hc.2.1
    obtain ⟨c', ws, hc', q3, r3⟩ := hs.list hc.2.2
    rw [l.ix j1 a hA] at ha'
    rw [l.ix j2 b hB] at hb'
    rw [l.ix j3 c hC] at hc'
    cases ha'; cases hb'; cases hc'
    refine ⟨vs, us, ws, q1, q2, q3, ?_⟩
    have z1 := r1.len
    have z2 := r2.len
    have z3 := r3.len
    simp only [Src.items, List.length_map, List.length_zip]
    omega
  | zTL j2 w2 xs ys =>
    obtain ⟨a, b, vs, q1, r1, hB, rfl⟩ := hJ
    obtain ⟨b', us, hb', q2, r2⟩ := hs.list (show S[j2]? = some (.lst w2 ys) from hc)
    rw [l.ix j2 b hB] at hb'
    cases hb'
    refine ⟨vs, us, (l.sn q1).t, q2, ?_⟩
    have z1 := r1.len
    have z2 := r2.len
    simp only [Src.items, List.length_map, List.length_zip]
    omega
  | zLT j w1 xs ys =>
    obtain ⟨a, b, us, hA, q2, r2, rfl⟩ := hJ
    obtain ⟨a', vs, ha', q1, r1⟩ := hs.list (show S[j]? = some (.lst w1 xs) from hc)
    rw [l.ix j a hA] at ha'
    cases ha'
    refine ⟨vs, us, q1, (l.sn q2).t, ?_⟩
    have z1 := r1.len
    have z2 := r2.len
    simp only [Src.items, List.length_map, List.length_zip]
    omega

/-! ### for -/
open Classical in
noncomputable def forGo (chk : Sto → Prop) (t : Tg) (body : Env → Sto → R Fl) : List D → Env → Sto → R Fl
  | [], ρ, S => if chk S then .ok (.nx ρ) S else .no
  | x :: xs, ρ, S => if chk S then (match tgD t x ρ with
    | some ρ1 => (body ρ1 S).bind fun f S2 => match f with
      | .nx ρ2 => forGo chk t body xs ρ2 S2
      | .ct ρ2 => forGo chk t body xs ρ2 S2
      | .bk ρ2 => .ok (.nx ρ2) S2
      | .rt d => .ok (.rt d) S2
      | .xc c ρ2 => .ok (.xc c ρ2) S2
    | none => .no) else .no
noncomputable def sFor (di : DenI) (t : Tg) (body : DenS) : DenS := fun lv ρ S => (di lv ρ S).bindS ρ fun src S1 => forGo src.chk t (fun ρ S => body lv ρ S) src.items ρ S1
theorem sd_for {di : DenI} {t : Tg} {bd : DenS} {bs : List Stmt} (hp : PassesOwn (model X.prog X.w) X.A X.env X.xe) (hc : X.calm = true) (hi : PI X tg iter (semI w EX lv di)) (hg : PG X tg (semG w t)) (hb : PSs X bs (semS w EX lv bd))
    (hs : ∀ x, foldedSetIterable iter X.env x = pure x) : PS X (.For tg iter bs [] pos) (semS w EX lv (sFor di t bd)) := PS.imp (ps_for hp hc hi hg hb hs) fun Dn σ H h => by
  obtain ⟨ρ, S, ι, he, hs, hw⟩ := h
  refine ⟨ρ, S, ι, he, hs, ?_⟩
  unfold sFor at hw
  cases e : di lv ρ S with
  | no => rw [e] at hw; exact hw.elim
  | ex c S1 => rw [e] at hw; exact fun H1 ι1 l s1 => hw σ H1 ι1 l s1 (he.mono l)
  | ok src S1 =>
    rw [e] at hw
    intro H1 ι1 J l1 s1 hck hJ
    have hw : (forGo src.chk t (fun ρ S => bd lv ρ S) src.items ρ S1).wp (PF w EX ι H Dn) noX := hw
    refine ⟨fun i m σ' H' => m = src.items.length - i ∧ i ≤ src.items.length ∧ ∃ ρ' S' ι', ERep w.K ι' H' ρ' σ' ∧ SRep w.K w.tabs ι' S' H' ∧ Le ι1 H1 ι' H' ∧ (forGo src.chk t (fun ρ S => bd lv ρ S) (src.items.drop i) ρ' S').wp (PF w EX ι' H' Dn) noX,
      ⟨_, rfl, Nat.zero_le _, ρ, S1, ι1, he.mono l1, s1, Le.refl _ _, R.wp_mono hw (fun f S2 q => q.mono l1) fun _ _ q => q⟩, ?_⟩
    rintro i m σ' H' ⟨rfl, hi, ρ', S', ι', e', s', l', w'⟩
    by_cases hlt : i < src.items.length
    · rw [List.drop_eq_getElem_cons hlt] at w'
      unfold forGo at w'
      split at w'
      · rename_i hck'
        split at w'
        · rename_i ρ1 et
          obtain ⟨g1, g2⟩ := it_go hJ l' s' hck' (List.getElem?_eq_getElem hlt)
          refine .inr ⟨g1, fun σ2 H2 => ∃ ρ2 S2 ι2, ERep w.K ι2 H2 ρ2 σ2 ∧ SRep w.K w.tabs ι2 S2 H2 ∧ Le ι' H' ι2 H2 ∧ (forGo src.chk t (fun ρ S => bd lv ρ S) (src.items.drop (i + 1)) ρ2 S2).wp (PF w EX ι2 H2 Dn) noX, fun σ2 H2 h2 => ?_, fun x H2 y => ?_⟩
          · obtain ⟨ρ2, S2, ι2, q1, q2, q3, q4⟩ := h2
            exact ⟨_, by omega, rfl, hlt, ρ2, S2, ι2, q1, q2, l'.trans q3, q4⟩
          · obtain ⟨lX, sX, rx⟩ := g2 x H2 y
            have e' := e'.mono lX
            have s' := sX
            have w' := R.wp_mono w' (fun _ _ q => q.mono lX) fun _ _ q => q
            refine ⟨ρ', ι', _, ρ1, e', rx, et, fun σ2 e2 _ => ?_⟩
            refine ⟨ρ1, S', ι', e2, s', R.wp_mono (R.wp_bind.mp w') (fun f S2 hf => ?_) fun _ _ q => q⟩
            cases f with
            | nx ρ2 => exact fun σ3 H3 ι3 l3 s3 e3 => ⟨ρ2, S2, ι3, e3, s3, lX.trans l3, R.wp_mono hf (fun f S4 q => q.mono l3) fun _ _ q => q⟩
            | ct ρ2 => exact fun σ3 H3 ι3 l3 s3 e3 => ⟨ρ2, S2, ι3, e3, s3, lX.trans l3, R.wp_mono hf (fun f S4 q => q.mono l3) fun _ _ q => q⟩
            | bk ρ2 => exact hf
            | rt d => exact hf
            | xc c ρ2 => exact hf
        · exact w'.elim
      · exact w'.elim
    · have ei : i = src.items.length := by omega
      subst ei
      rw [List.drop_length] at w'
      unfold forGo at w'
      split at w'
      · rename_i hck'
        exact .inl ⟨it_stop hJ l' s' hck', w' σ' H' ι' (Le.refl _ _) s' e'⟩
      · exact w'.elim

/-! ### while -/
def whGo (c : Env → Sto → R Bool) (body : Env → Sto → R Fl) : Nat → Env → Sto → R Fl
  | 0, _, _ => .no
  | n + 1, ρ, S => (c ρ S).bindS ρ fun b S1 => if b = true then (body ρ S1).bind fun f S2 => match f with
      | .nx ρ2 => whGo c body n ρ2 S2
      | .ct ρ2 => whGo c body n ρ2 S2
      | .bk ρ2 => .ok (.nx ρ2) S2
      | .rt d => .ok (.rt d) S2
      | .xc c ρ2 => .ok (.xc c ρ2) S2
    else .ok (.nx ρ) S1
/-- so many turns at most -/
def sWhile (n : Nat) (c : DenT) (body : DenS) : DenS := fun lv ρ S => whGo (fun ρ S => c lv ρ S) (fun ρ S => body lv ρ S) n ρ S
theorem sd_while {n : Nat} {c : Expr} {tc : DenT} {bd : DenS} {bs : List Stmt} (hp : PassesOwn (model X.prog X.w) X.A X.env X.xe) (hc : PT X c (semT w EX lv tc)) (hb : PSs X bs (semS w EX lv bd)) : PS X (.While c bs [] pos) (semS w EX lv (sWhile n tc bd)) :=
  PS.imp (ps_while hp hc hb) fun Dn σ H h => by
    obtain ⟨ρ, S, ι, he, hs, hw⟩ := h
    refine ⟨fun m σ' H' => ∃ ρ' S' ι', ERep w.K ι' H' ρ' σ' ∧ SRep w.K w.tabs ι' S' H' ∧ (whGo (fun ρ S => tc lv ρ S) (fun ρ S => bd lv ρ S) m ρ' S').wp (PF w EX ι' H' Dn) noX, ⟨n, ρ, S, ι, he, hs, hw⟩, ?_⟩
    rintro m σ' H' ⟨ρ', S', ι', e', s', w'⟩
    cases m with
    | zero => exact w'.elim
    | succ m =>
      refine stepTS e' s' w' fun x S1 H1 ι1 l1 s1 e1 h1 => ?_
      cases x with
      | false => exact h1 σ' H1 ι1 (Le.refl _ _) s1 e1
      | true =>
        refine ⟨fun σ2 H2 => ∃ ρ' S' ι', ERep w.K ι' H2 ρ' σ2 ∧ SRep w.K w.tabs ι' S' H2 ∧ (whGo (fun ρ S => tc lv ρ S) (fun ρ S => bd lv ρ S) m ρ' S').wp (PF w EX ι' H2 Dn) noX, fun σ2 H2 h2 => ⟨m, Nat.lt_succ_self m, h2⟩, ?_⟩
        refine ⟨ρ', S1, ι1, e1, s1, R.wp_mono (R.wp_bind.mp h1) (fun f S2 hf => ?_) fun _ _ q => q⟩
        cases f with
        | nx ρ2 => exact fun σ3 H3 ι3 l3 s3 e3 => ⟨ρ2, S2, ι3, e3, s3, R.wp_mono hf (fun f S4 q => q.mono l3) fun _ _ q => q⟩
        | ct ρ2 => exact fun σ3 H3 ι3 l3 s3 e3 => ⟨ρ2, S2, ι3, e3, s3, R.wp_mono hf (fun f S4 q => q.mono l3) fun _ _ q => q⟩
        | bk ρ2 => exact hf
        | rt d => exact hf
        | xc c ρ2 => exact hf
end
end Dv

namespace Dv
open PySem PySem.Spec PyProof.Rows L2 Gr

/-- the names of a block forgotten -/
def wipeE (ρ : Env) : List Nat → Env
  | [] => ρ
  | v :: vs => (wipeE ρ vs).set v none
theorem ERep.unset {K : PySem.W.Frag} {ι : List Addr} {H : Hp} {ρ : Env} {σ : L2.St} {i : Nat} (h : ERep K ι H ρ σ) : ERep K ι H (ρ.set i none) (σ.set i none) := by
  refine ⟨by rw [List.length_set, List.length_set]; exact h.1, fun j e hj => ?_⟩
  by_cases hij : i = j
  · subst hij
    by_cases hi : i < ρ.length
    · rw [List.getElem?_set_self hi] at hj
      cases hj
    · rw [List.getElem?_eq_none (by rw [List.length_set]; omega)] at hj
      cases hj
  · rw [List.getElem?_set_ne hij] at hj
    obtain ⟨u, h1, h2⟩ := h.2 j e hj
    exact ⟨u, by rw [List.getElem?_set_ne hij]; exact h1, h2⟩
theorem ERep.wiped {K : PySem.W.Frag} {ι : List Addr} {H : Hp} {ρ : Env} {σ : L2.St} (h : ERep K ι H ρ σ) : ∀ vs : List Nat, ERep K ι H (wipeE ρ vs) (wipe σ vs)
  | [] => h
  | _ :: vs => (h.wiped vs).unset
abbrev noE : EXT := fun _ _ _ => False
def tYesD : DenT := fun _ _ S => .ok true S

/-! ### list comprehensions -/
open Classical in
noncomputable def lcGo (n : Nat) (chk : Sto → Prop) (t : Tg) (cond : Env → Sto → R Bool) (elt : Env → Sto → R D) (ρ : Env) : List D → Sto → R D
  | [], S => if chk S then .ok (.ref n) S else .no
  | x :: xs, S => if chk S then (match tgD t x ρ with
    | some ρ1 => (quiet (cond ρ1 S)).bind fun b S1 => if b = true then (quiet (elt ρ1 S1)).bind fun y S2 => match S2[n]? with
        | some (.lst true acc) => if acc.length < mx then lcGo n chk t cond elt ρ xs (S2.set n (.lst true (acc ++ [y]))) else .no
        | _ => .no
      else lcGo n chk t cond elt ρ xs S1
    | none => .no) else .no
noncomputable def dLc (di : DenI) (t : Tg) (cond : DenT) (elt : Den) (vs : List Nat) : Den := fun lv ρ S => (di lv ρ S).bind fun src S1 =>
  lcGo S1.length src.chk t (fun ρ S => cond lv ρ S) (fun ρ S => elt lv ρ S) (wipeE ρ vs) src.items (S1 ++ [.lst true []])
theorem quiet_bind {α β : Type} {x : R α} {f : α → Sto → R β} {Q : β → Sto → Prop} {W W' : Nat → Sto → Prop} (h : ((quiet x).bind f).wp Q W) : x.wp (fun a S => (f a S).wp Q W) W' := quiet_wp (R.wp_bind.mp h)
section
variable {X : Cx} {w : Wn} {EX : EXT} {lv : Lv} {σ : L2.St} {H : Hp} {ρ : Env} {S : Sto} {ι : List Addr} {Dn : Ends} {elt tg iter : Expr} {ifs : List Expr} {scope : Scope} {own : List (Str × Nat)} {p pos : Pos} {di : DenI} {t : Tg} {tc : DenT} {de : Den}
theorem lc_read {Q : VK} (hv : ∀ i ∈ t.slots, i ∈ own.map (·.2)) (h : semE w EX lv (dLc di t tc de (own.map (·.2))) σ H Q) :
    tLc (semI w EX lv di) (semG w t) (semT w noE lv tc) (semE w noE lv de) (own.map (·.2)) σ H Q := by
  obtain ⟨ρ, S, ι, he, hs, hw⟩ := h
  refine ⟨ρ, S, ι, he, hs, ?_⟩
  unfold dLc at hw
  cases e : di lv ρ S with
  | no => rw [e] at hw; exact hw.elim
  | ex c S1 => rw [e] at hw; exact hw
  | ok src S1 =>
    rw [e] at hw
    intro H1 ι1 J l1 s1 hck hJ D hD
    have hw : (lcGo S1.length src.chk t (fun ρ S => tc lv ρ S) (fun ρ S => de lv ρ S) (wipeE ρ (own.map (·.2))) src.items (S1 ++ [.lst true []])).wp (PV w ι H Q) (PX w EX ι H σ) := hw
    obtain ⟨s2, l2, r2⟩ := new_lst (w := w) s1 hD (xs := []) (vs := []) rfl
    have e2 : ERep w.K (ι1 ++ [D]) (upd H1 D (.lst [])) ρ σ := he.mono (l1.trans l2)
    refine ⟨fun i m H' => m = src.items.length - i ∧ i ≤ src.items.length ∧ ∃ S' ι', ERep w.K ι' H' ρ σ ∧ SRep w.K w.tabs ι' S' H' ∧ Le (ι1 ++ [D]) (upd H1 D (.lst [])) ι' H' ∧
      (lcGo S1.length src.chk t (fun ρ S => tc lv ρ S) (fun ρ S => de lv ρ S) (wipeE ρ (own.map (·.2))) (src.items.drop i) S').wp (PV w ι' H' Q) (PX w EX ι' H' σ),
      ⟨_, rfl, Nat.zero_le _, _, _, e2, s2, Le.refl _ _, R.wp_mono hw (fun f S2 q => q.mono (l1.trans l2)) fun _ _ q => q.mono (l1.trans l2)⟩, ?_⟩
    rintro i m H' ⟨rfl, hi, S', ι', e', s', l', w'⟩
    have hD' : ι'[S1.length]? = some D := by
      obtain ⟨a, ea, q⟩ := Rep.mono l' _ _ r2
      cases ea
      exact q
    have lall := l2.trans l'
    by_cases hlt : i < src.items.length
    · rw [List.drop_eq_getElem_cons hlt] at w'
      unfold lcGo at w'
      split at w'
      · rename_i hck'
        split at w'
        · rename_i ρ1 et
          obtain ⟨g1, g2⟩ := it_go hJ lall s' hck' (List.getElem?_eq_getElem hlt)
          refine .inr ⟨g1, fun H2 => ∃ S2 ι2, ERep w.K ι2 H2 ρ σ ∧ SRep w.K w.tabs ι2 S2 H2 ∧ Le ι' H' ι2 H2 ∧ (lcGo S1.length src.chk t (fun ρ S => tc lv ρ S) (fun ρ S => de lv ρ S) (wipeE ρ (own.map (·.2))) (src.items.drop (i + 1)) S2).wp (PV w ι2 H2 Q) (PX w EX ι2 H2 σ), fun H2 h2 => ?_, fun x H2 y => ?_⟩
          · obtain ⟨S2, ι2, q1, q2, q3, q4⟩ := h2
            exact ⟨_, by omega, rfl, hlt, S2, ι2, q1, q2, l'.trans q3, q4⟩
          · obtain ⟨lX, sX, rx⟩ := g2 x H2 y
            have e' := e'.mono lX
            have s' := sX
            have w' := R.wp_mono w' (fun _ _ q => q.mono lX) fun _ _ q => q.mono lX
            refine ⟨_, ι', _, ρ1, e'.wiped _, rx, et, fun σ2 e2 k2 => ?_⟩
            refine ⟨?_, ?_⟩
            · rw [k2 _ hv]
              have : ∀ vs : List Nat, (∀ i ∈ vs, i ∈ own.map (·.2)) → wipe (wipe σ vs) (own.map (·.2)) = wipe σ (own.map (·.2)) := fun vs => by
                induction vs with
                | nil => intro _; rfl
                | cons u us ih =>
                  intro hu
                  show wipe ((wipe σ us).set u none) _ = _
                  rw [wipe_set (hu u List.mem_cons_self)]
                  exact ih fun i hi => hu i (List.mem_cons_of_mem _ hi)
              exact this _ fun _ h => h
            refine ⟨ρ1, S', ι', e2, s', R.wp_mono (quiet_bind (W' := PX w noE ι' H2 σ2) w') (fun b S2 hb => ?_) fun _ _ q => q⟩
            intro H3 ι3 l3 s3
            cases b with
            | false => exact ⟨S2, ι3, e'.mono l3, s3, lX.trans l3, R.wp_mono hb (fun _ _ q => q.mono l3) fun _ _ q => q.mono l3⟩
            | true =>
              refine ⟨ρ1, S2, ι3, e2.mono l3, s3, R.wp_mono (quiet_bind (W' := PX w noE ι3 H3 σ2) hb) (fun yd S4 hy => ?_) fun _ _ q => q⟩
              intro vy H4 ι4 l4 s4 ry
              try dsimp only at hy
              split at hy
              · rename_i acc ea
                split at hy
                · rename_i hz
                  have hD4 := l4.ix _ _ (l3.ix _ _ hD')
                  obtain ⟨vacc, k1, k2⟩ := s4.obj _ _ D ea hD4
                  have l5 : Le ι4 H4 ι4 (upd H4 D (.lst (vacc ++ [vy]))) := ⟨fun _ _ z => z, fun b vs z => by
                      rw [upd_ne (fun q => by rw [q, k1] at z; cases z)]; exact z, fun b o u z => by
                      rw [upd_ne (fun q => by rw [q, k1] at z; cases z)]; exact z⟩
                  obtain ⟨s5, _⟩ := s4.put (u := .lst (vacc ++ [vy])) (o' := .lst true (acc ++ [yd])) ea hD4 rfl rfl ⟨_, upd_same, RepL.mono l5 _ _ (k2.app (RepL.one ry))⟩
                  have l35 := (l3.trans l4).trans l5
                  exact ⟨vacc, k1, by rw [← k2.len]; exact mx_lt hz, _, ι4, e'.mono l35, s5, lX.trans l35, R.wp_mono hy (fun _ _ q => q.mono l35) fun _ _ q => q.mono l35⟩
                · exact hy.elim
              · exact hy.elim
        · exact w'.elim
      · exact w'.elim
    · have ei : i = src.items.length := by omega
      subst ei
      rw [List.drop_length] at w'
      unfold lcGo at w'
      split at w'
      · rename_i hck'
        exact .inl ⟨it_stop hJ lall s' hck', PV.now w' s' ⟨D, rfl, hD'⟩⟩
      · exact w'.elim
/-- the parts of a comprehension, in every block of it -/
structure LParts (X : Cx) (scope : Scope) (tg : Expr) (ifs : List Expr) (elt : Expr) (gt : TG) (tt : TT) (te : TE) : Prop where
  g : ∀ (s : Shared) (H : Hp) (C : Addr) (cl : List (Str × Addr)) (fp : List Addr), PG (X.blk s H scope (compEnvC scope cl C X.env) fp) tg gt
  t : ∀ (s : Shared) (H : Hp) (C : Addr) (cl : List (Str × Addr)) (fp : List Addr), PTs (X.blk s H scope (compEnvC scope cl C X.env) fp) ifs tt
  e : ∀ (s : Shared) (H : Hp) (C : Addr) (cl : List (Str × Addr)) (fp : List Addr), PE (X.blk s H scope (compEnvC scope cl C X.env) fp) elt te
theorem pd_lc (hc : X.calm = true) (hN : X.N.Nodup) (hi : PI X tg iter (semI w EX lv di)) (ok : BlkOk X.N X.env.scope scope own) (hv : ∀ i ∈ t.slots, i ∈ own.map (·.2))
    (hp : LParts X scope tg ifs elt (semG w t) (semT w noE lv tc) (semE w noE lv de)) (hs : ∀ x, foldedSetIterable iter X.env x = pure x) :
    PE X (.ListComp elt [⟨tg, iter, ifs, 0⟩] scope pos) (semE w EX lv (dLc di t tc de (own.map (·.2)))) := PE.imp (pe_lc hc hN hi ok hp.g hp.t hp.e hs) fun _ _ _ h => lc_read hv h
theorem sd_lc {i : Nat} {y : Str} {py spos : Pos} (hc : X.calm = true) (hN : X.N.Nodup) (hy : X.N[i]? = some y) (hyl : X.env.scope.names.lookup y = some .local)
    (hsw : swapsWith (.ListComp elt [⟨tg, iter, ifs, 0⟩] scope pos) (some (.Name y py)) spos.line X.env = pure true) (hi : PI X tg iter (semI w EX lv di)) (ok : BlkOk X.N X.env.scope scope own) (hv : ∀ i ∈ t.slots, i ∈ own.map (·.2))
    (hp : LParts X scope tg ifs elt (semG w t) (semT w noE lv tc) (semE w noE lv de)) (hs : ∀ x, foldedSetIterable iter X.env x = pure x) :
    PS X (.Assign [.Name y py] (.ListComp elt [⟨tg, iter, ifs, 0⟩] scope pos) spos) (semS w EX lv (sAsg (.nm i) (dLc di t tc de (own.map (·.2))))) := PS.imp (ps_setLc hc hN hy hyl hsw hi ok hp.g hp.t hp.e hs) fun Dn σ H h => by
  refine lc_read hv ?_
  obtain ⟨ρ, S, ι, he, hs, hw⟩ := h
  exact stepES he hs hw fun x S1 v H1 ι1 l1 s1 r1 e1 h1 => h1 _ H1 ι1 (Le.refl _ _) s1 (e1.set r1)

/-! ### all and any of a generator expression -/
open Classical in
/-- bb: the truth at which one stops -/
noncomputable def abGo (bb : Bool) (chk : Sto → Prop) (t : Tg) (cond : Env → Sto → R Bool) (elt : Env → Sto → R D) (ρ : Env) : List D → Sto → R D
  | [], S => if chk S then .ok (.bl (!bb)) S else .no
  | x :: xs, S => if chk S then (match tgD t x ρ with
    | some ρ1 => (quiet (cond ρ1 S)).bind fun b S1 => if b = true then (quiet (elt ρ1 S1)).bind fun y S2 => match y with
        | .bl c => if c = bb then .ok (.bl bb) S2 else abGo bb chk t cond elt ρ xs S2
        | _ => .no
      else abGo bb chk t cond elt ρ xs S1
    | none => .no) else .no
noncomputable def dAb (bb : Bool) (di : DenI) (t : Tg) (cond : DenT) (elt : Den) (vs : List Nat) : Den := fun lv ρ S => (di lv ρ S).bind fun src S1 =>
  abGo bb src.chk t (fun ρ S => cond lv.dn ρ S) (fun ρ S => elt lv.dn ρ S) (wipeE ρ vs) src.items S1
theorem wipe_twice {vs : List Nat} : wipe (wipe σ vs) vs = wipe σ vs := by
  have : ∀ us : List Nat, (∀ i ∈ us, i ∈ vs) → wipe (wipe σ us) vs = wipe σ vs := fun us => by
    induction us with
    | nil => intro _; rfl
    | cons u us ih =>
      intro hu
      show wipe ((wipe σ us).set u none) _ = _
      rw [wipe_set (hu u List.mem_cons_self)]
      exact ih fun i hi => hu i (List.mem_cons_of_mem _ hi)
  exact this _ fun _ h => h
/-- a table grows: nothing that is told of changes -/
theorem tabbed_le {P : Addr} {H2 : Hp} (h : Gx.Tabbed P H H2) (hP : Gx.TabG H P) : Le ι H ι H2 := by
  obtain ⟨ps, h1, _⟩ := hP
  exact ⟨fun _ _ z => z, fun a vs z => by rw [h.2 a (fun q => by rw [q, h1] at z; cases z)]; exact z, fun a o u z => by rw [h.2 a (fun q => by rw [q, h1] at z; cases z)]; exact z⟩
theorem tabbed_rep {K : PySem.W.Frag} {tabs : List Addr} {P : Addr} {H2 : Hp} (hs : SRep K tabs ι S H) (h : Gx.Tabbed P H H2) (hP : Gx.TabG H P) : SRep K tabs ι S H2 := by
  refine ⟨hs.len, hs.nd, fun i o a e1 e2 => ?_, fun P' hP' => ?_⟩
  · refine (hs.obj i o a e1 e2).stay (tabbed_le h hP) fun m => h.2 a fun q => ?_
    obtain ⟨u, hu, _, _, n3⟩ := (hs.obj i o a e1 e2).tracked m
    obtain ⟨ps, h1, _⟩ := hP
    rw [q, h1] at hu
    exact n3 ps (Option.some.inj hu).symm
  · by_cases q : P' = P
    · rw [q]; exact h.1
    · exact tab_stay (h.2 P' q) (hs.tab P' hP')
theorem ab_read {bb : Bool} {P : Addr} {QE QO : Hp → Prop} {Q : VK} (hP : P ∈ w.tabs) (hv : ∀ i ∈ t.slots, i ∈ own.map (·.2)) (hE : ∀ H, Q (.bl (!bb)) H → QE H) (hO : ∀ H, Q (.bl bb) H → QO H)
    (h : semE w EX lv (dAb bb di t tc de (own.map (·.2))) σ H Q) :
    semI w EX lv di σ H fun J H1 => Gx.TabG H1 P ∧ ∀ H2, Gx.Tabbed P H1 H2 → Gx.TurnB J (semG w t) (semT w noE lv.dn tc) (semE w noE lv.dn de) (own.map (·.2)) σ bb QE QO H2 := by
  obtain ⟨ρ, S, ι, he, hs, hw⟩ := h
  refine ⟨ρ, S, ι, he, hs, ?_⟩
  unfold dAb at hw
  cases e : di lv ρ S with
  | no => rw [e] at hw; exact hw.elim
  | ex c S1 => rw [e] at hw; exact hw
  | ok src S1 =>
    rw [e] at hw
    intro H1 ι1 J l1 s1 hck hJ
    have hw : (abGo bb src.chk t (fun ρ S => tc lv.dn ρ S) (fun ρ S => de lv.dn ρ S) (wipeE ρ (own.map (·.2))) src.items S1).wp (PV w ι H Q) (PX w EX ι H σ) := hw
    have hTP := s1.tab P hP
    refine ⟨hTP, fun H2 hTb => ?_⟩
    have l2 := tabbed_le (ι := ι1) hTb hTP
    have s2 := tabbed_rep s1 hTb hTP
    refine ⟨fun i m H' => m = src.items.length - i ∧ i ≤ src.items.length ∧ ∃ S' ι', ERep w.K ι' H' ρ σ ∧ SRep w.K w.tabs ι' S' H' ∧ Le ι1 H2 ι' H' ∧
      (abGo bb src.chk t (fun ρ S => tc lv.dn ρ S) (fun ρ S => de lv.dn ρ S) (wipeE ρ (own.map (·.2))) (src.items.drop i) S').wp (PV w ι' H' Q) (PX w EX ι' H' σ),
      ⟨_, rfl, Nat.zero_le _, S1, ι1, he.mono (l1.trans l2), s2, Le.refl _ _, R.wp_mono hw (fun f S2 q => q.mono (l1.trans l2)) fun _ _ q => q.mono (l1.trans l2)⟩, ?_⟩
    rintro i m H' ⟨rfl, hi, S', ι', e', s', l', w'⟩
    have lall := l2.trans l'
    by_cases hlt : i < src.items.length
    · rw [List.drop_eq_getElem_cons hlt] at w'
      unfold abGo at w'
      split at w'
      · rename_i hck'
        split at w'
        · rename_i ρ1 et
          obtain ⟨g1, g2⟩ := it_go hJ lall s' hck' (List.getElem?_eq_getElem hlt)
          refine .inr ⟨g1, fun H2 => ∃ S2 ι2, ERep w.K ι2 H2 ρ σ ∧ SRep w.K w.tabs ι2 S2 H2 ∧ Le ι' H' ι2 H2 ∧ (abGo bb src.chk t (fun ρ S => tc lv.dn ρ S) (fun ρ S => de lv.dn ρ S) (wipeE ρ (own.map (·.2))) (src.items.drop (i + 1)) S2).wp (PV w ι2 H2 Q) (PX w EX ι2 H2 σ), fun H2 h2 => ?_, fun x H2 y => ?_⟩
          · obtain ⟨S2, ι2, q1, q2, q3, q4⟩ := h2
            exact ⟨_, by omega, rfl, hlt, S2, ι2, q1, q2, l'.trans q3, q4⟩
          · obtain ⟨lX, sX, rx⟩ := g2 x H2 y
            have e' := e'.mono lX
            have s' := sX
            have w' := R.wp_mono w' (fun _ _ q => q.mono lX) fun _ _ q => q.mono lX
            refine ⟨_, ι', _, ρ1, e'.wiped _, rx, et, fun σ2 e2 k2 => ⟨by rw [k2 _ hv, wipe_twice], ?_⟩⟩
            refine ⟨ρ1, S', ι', e2, s', R.wp_mono (quiet_bind (W' := PX w noE ι' H2 σ2) w') (fun b S2 hb => ?_) fun _ _ q => q⟩
            intro H3 ι3 l3 s3
            cases b with
            | false => exact ⟨S2, ι3, e'.mono l3, s3, lX.trans l3, R.wp_mono hb (fun _ _ q => q.mono l3) fun _ _ q => q.mono l3⟩
            | true =>
              refine ⟨ρ1, S2, ι3, e2.mono l3, s3, R.wp_mono (quiet_bind (W' := PX w noE ι3 H3 σ2) hb) (fun yd S4 hy => ?_) fun _ _ q => q⟩
              intro vy H4 ι4 l4 s4 ry
              have l34 := l3.trans l4
              cases yd <;> first | exact False.elim hy | skip
              rename_i c
              cases ry
              dsimp only at hy
              refine ⟨c, rfl, fun hcb => ?_, fun hcb => ?_⟩
              · rw [if_pos hcb] at hy
                exact hO H4 (PV.now (PV.mono l34 hy) s4 rfl)
              · rw [if_neg (by rw [hcb]; cases bb <;> decide)] at hy
                exact ⟨S4, ι4, e'.mono l34, s4, lX.trans l34, R.wp_mono hy (fun _ _ q => q.mono l34) fun _ _ q => q.mono l34⟩
        · exact w'.elim
      · exact w'.elim
    · have ei : i = src.items.length := by omega
      subst ei
      rw [List.drop_length] at w'
      unfold abGo at w'
      split at w'
      · rename_i hck'
        exact .inl ⟨it_stop hJ lall s' hck', hE H' (PV.now w' s' rfl)⟩
      · exact w'.elim
theorem pd_any {c P : Addr} {gpos : Pos} {j : Nat} (hP : P ∈ w.tabs) (hv : ∀ i ∈ t.slots, i ∈ own.map (·.2)) (hr : RoomG (j + 1) X.A) (hgl : Gl X "any") (hm : X.mg "any" = none) (hN : X.N.Nodup) (TB : LamX.TabB X.base X.mg c P) (hcode : X.env.code = .ref c) (G : Gx.GScp X.N X.env.scope scope own)
    (hi : PI X tg iter (semI w EX lv di)) (hp : Gx.GParts X j scope tg ifs elt (semG w t) (semT w noE lv.dn tc) (semE w noE lv.dn de)) (hs : ∀ v, genFold iter X.env v = pure v) :
    PE X (.Call (.Name "any" p) [.GeneratorExp elt [⟨tg, iter, ifs, 0⟩] scope gpos] [] pos) (semE w EX lv (dAb true di t tc de (own.map (·.2)))) :=
  PE.imp (Gx.pe_anyG hr hgl hm hN TB hcode G hi hp hs) fun _ _ _ h => ab_read hP hv (fun _ q => q) (fun _ q => q) h
end
end Dv

namespace Dv
open PySem PySem.Spec PyProof.Rows L2

/-! ### sorting -/
section
variable {α β : Type}
def ins (lt : α → α → Bool) (x : α) : List α → List α
  | [] => [x]
  | y :: ys => if lt y x = true then y :: ins lt x ys else x :: y :: ys
def isort (lt : α → α → Bool) : List α → List α
  | [] => []
  | x :: xs => ins lt x (isort lt xs)
theorem ins_perm {lt : α → α → Bool} {x : α} : ∀ l : List α, (ins lt x l).Perm (x :: l)
  | [] => List.Perm.refl _
  | y :: ys => by
    unfold ins
    split
    · exact ((ins_perm ys).cons y).trans (List.Perm.swap x y ys)
    · exact List.Perm.refl _
theorem isort_perm {lt : α → α → Bool} : ∀ l : List α, (isort lt l).Perm l
  | [] => List.Perm.refl _
  | x :: xs => (ins_perm _).trans ((isort_perm xs).cons x)
theorem ins_srtd {lt : α → α → Bool} (O : SrtO.Swo lt) {x : α} : ∀ {l : List α}, SrtO.Srtd lt l → SrtO.Srtd lt (ins lt x l)
  | [], _ => SrtO.srtd_one x
  | y :: ys, h => by
    unfold ins
    have h1 := SrtO.srtd_head h
    have h2 : SrtO.Srtd lt ys := (List.pairwise_cons.mp h).2
    split
    · rename_i hl
      refine List.pairwise_cons.mpr ⟨fun z hz => ?_, ins_srtd O h2⟩
      rcases List.mem_cons.mp ((ins_perm ys).mem_iff.mp hz) with e | e
      · rw [e]; exact O.asym y x hl
      · exact h1 z e
    · rename_i hl
      refine List.pairwise_cons.mpr ⟨fun z hz => ?_, h⟩
      have hl : lt y x = false := by
        cases q : lt y x with
        | true => exact absurd q hl
        | false => rfl
      rcases List.mem_cons.mp hz with e | e
      · rw [e]; exact hl
      · exact O.tr x y z hl (h1 z e)
theorem isort_srtd {lt : α → α → Bool} (O : SrtO.Swo lt) : ∀ l : List α, SrtO.Srtd lt (isort lt l)
  | [] => List.Pairwise.nil
  | _ :: xs => ins_srtd O (isort_srtd O xs)
theorem ins_stb {lt : α → α → Bool} (O : SrtO.Swo lt) {x : α} : ∀ l : List α, SrtO.Stb lt (ins lt x l) (x :: l)
  | [] => SrtO.Stb.refl _
  | y :: ys => by
    unfold ins
    split
    · rename_i hl
      have h1 : SrtO.Stb lt ([y] ++ ins lt x ys) ([y] ++ (x :: ys)) := (SrtO.Stb.refl [y]).app (ins_stb O ys)
      have h2 : SrtO.Stb lt (([y] ++ [x]) ++ ys) (([x] ++ [y]) ++ ys) := (SrtO.Stb.swap O (A := [y]) (B := [x]) fun a ha b hb => by
        rw [List.mem_singleton.mp ha, List.mem_singleton.mp hb]; exact hl).app (SrtO.Stb.refl ys)
      exact h1.trans h2
    · exact SrtO.Stb.refl _
theorem isort_stb {lt : α → α → Bool} (O : SrtO.Swo lt) : ∀ l : List α, SrtO.Stb lt (isort lt l) l
  | [] => SrtO.Stb.refl _
  | x :: xs => (ins_stb O _).trans ((SrtO.Stb.refl [x]).app (isort_stb O xs))
theorem Stb.symm {lt : α → α → Bool} {l m : List α} (h : SrtO.Stb lt l m) : SrtO.Stb lt m l := ⟨h.perm.symm, fun x => (h.cls x).symm⟩
/-- the one that is sorted and stable -/
theorem isort_uniq {lt : α → α → Bool} (O : SrtO.Swo lt) {l m : List α} (h1 : SrtO.Srtd lt l) (h2 : SrtO.Stb lt l m) : l = isort lt m :=
  SrtO.stb_uniq O h1 (isort_srtd O m) (h2.trans (Stb.symm (isort_stb O m)))
theorem ins_map {lt : α → α → Bool} {lt' : β → β → Bool} {f : α → β} {x : α} : ∀ {l : List α}, (∀ y ∈ l, lt y x = lt' (f y) (f x)) → (ins lt x l).map f = ins lt' (f x) (l.map f)
  | [], _ => rfl
  | y :: ys, h => by
    have e := h y List.mem_cons_self
    show (if lt y x = true then y :: ins lt x ys else x :: y :: ys).map f = if lt' (f y) (f x) = true then f y :: ins lt' (f x) (ys.map f) else f x :: f y :: ys.map f
    rw [← e]
    cases q : lt y x with
    | true =>
      rw [if_pos rfl, if_pos rfl, List.map_cons, ins_map fun z hz => h z (List.mem_cons_of_mem _ hz)]
    | false =>
      rw [if_neg (by decide), if_neg (by decide), List.map_cons, List.map_cons]
theorem isort_map {lt : α → α → Bool} {lt' : β → β → Bool} {f : α → β} : ∀ {l : List α}, (∀ x ∈ l, ∀ y ∈ l, lt y x = lt' (f y) (f x)) → (isort lt l).map f = isort lt' (l.map f)
  | [], _ => rfl
  | x :: xs, h => by
    unfold isort
    rw [ins_map fun y hy => h x List.mem_cons_self y (List.mem_cons_of_mem _ ((isort_perm xs).mem_iff.mp hy)), isort_map fun a ha b hb => h a (List.mem_cons_of_mem _ ha) b (List.mem_cons_of_mem _ hb)]
    rfl
end
def keyD : D → Int × Int
  | .tup [.int a, .int b] => (a, b)
  | _ => (0, 0)
def isPr : D → Bool
  | .tup [.int _, .int _] => true
  | _ => false
def ltK (x y : D) : Bool := SrtO.lexB (keyD x) (keyD y)
def isRf : D → Bool
  | .ref _ => true
  | _ => false
def sortedD : OpN
  | [d], S => match itemsD d S with
    | some xs => if xs.all isPr = true ∧ xs.length ≤ mx ∧ isRf d = true then .ok (.ref S.length) (S ++ [.lst true (isort ltK xs)]) else .no
    | none => .no
  | _, _ => .no
open Classical in
noncomputable def kvOf (h : Heap) (u : Value) : Int × Int := if q : ∃ p : Int × Int, Srt.IsPair h u p.1 p.2 then Classical.choose q else (0, 0)
theorem kvOf_eq {h : Heap} {u : Value} {x y : Int} (q : Srt.IsPair h u x y) : kvOf h u = (x, y) := by
  have ex : ∃ p : Int × Int, Srt.IsPair h u p.1 p.2 := ⟨(x, y), q⟩
  unfold kvOf
  rw [dif_pos ex]
  have z := Classical.choose_spec ex
  generalize Classical.choose ex = p at z
  obtain ⟨a, o, t, u', n, e1, e2, e3, e4⟩ := z
  obtain ⟨a', o', t', u2, n', f1, f2, f3, f4⟩ := q
  rw [e1] at f1
  cases f1
  rw [e2] at f2
  cases f2
  rw [e4] at f4
  obtain ⟨p1, p2⟩ := p
  simp at f4
  obtain ⟨⟨⟨g1, _⟩, g2, _⟩, _⟩ := f4
  simp [g1, g2]
section
variable {X : Cx} {tabs : List Addr}
/-- three lists side by side -/
theorem trip {K : PySem.W.Frag} {ι : List Addr} {H : Hp} : ∀ {ds : List D} {vs : List V} {us : List Value}, RepL K ι H ds vs → Vals vs us → ∃ zs : List (D × V × Value), zs.map (·.1) = ds ∧ zs.map (·.2.1) = vs ∧ zs.map (·.2.2) = us ∧ ∀ z ∈ zs, Rep K ι H z.1 z.2.1 ∧ RelV z.2.1 z.2.2
  | [], vs, us, r, h => by
    have r : vs = [] := r
    subst r
    cases h
    exact ⟨[], rfl, rfl, rfl, fun z hz => by cases hz⟩
  | d :: ds, _, _, r, h => by
    obtain ⟨v, vr, rfl, r1, r2⟩ := r
    cases h with
    | cons q1 q2 =>
      rename_i u us
      obtain ⟨zs, e1, e2, e3, hz⟩ := trip r2 q2
      refine ⟨(d, v, u) :: zs, by rw [List.map_cons, e1], by rw [List.map_cons, e2], by rw [List.map_cons, e3], fun z hzm => ?_⟩
      rcases List.mem_cons.mp hzm with e | e
      · rw [e]; exact ⟨r1, q1⟩
      · exact hz z e
theorem untrip {K : PySem.W.Frag} {ι : List Addr} {H : Hp} : ∀ {zs : List (D × V × Value)}, (∀ z ∈ zs, Rep K ι H z.1 z.2.1 ∧ RelV z.2.1 z.2.2) → RepL K ι H (zs.map (·.1)) (zs.map (·.2.1)) ∧ Vals (zs.map (·.2.1)) (zs.map (·.2.2))
  | [], _ => ⟨rfl, .nil⟩
  | z :: zs, h => by
    obtain ⟨h1, h2⟩ := h z List.mem_cons_self
    obtain ⟨h3, h4⟩ := untrip fun y hy => h y (List.mem_cons_of_mem _ hy)
    exact ⟨⟨_, _, rfl, h1, h3⟩, .cons h2 h4⟩
theorem pr_pair {pins : List (Addr × Obj)} {σ : L2.St} {H : Hp} {s : Shared} {ι : List Addr} {d : D} {v : V} {u : Value} (I : L2.Inv X pins σ H s) (hp : isPr d = true) (r : Rep X.K ι H d v) (q : RelV v u) : Srt.IsPair s.heap u (keyD d).1 (keyD d).2 := by
  match d, hp with
  | .tup [.int a, .int b], _ =>
    obtain ⟨p, vs, rfl, hq, l⟩ := r
    cases q
    obtain ⟨v1, v2, rfl, q1, q2⟩ := repl2 l
    cases q1; cases q2
    obtain ⟨its, rv, ⟨o, ho, hc, n, hd⟩, _⟩ := I.tuple hq.t
    obtain ⟨u1, u2, rfl, ri, rj⟩ := vals2 rv
    obtain ⟨t1, rfl⟩ := ri
    obtain ⟨t2, rfl⟩ := rj
    exact ⟨p, o, t1, t2, n, rfl, ho, hc, hd⟩
theorem crd_sorted : CallR X (.builtin "sorted") (rCl ⟨X.K, tabs⟩ sortedD) := by
  rintro pins s σ H xs us Q I rx ⟨S, ι, ds, hs, r, hw⟩
  unfold sortedD at hw
  split at hw
  · rename_i d
    obtain ⟨v, rfl, q⟩ := repl1 r
    split at hw
    · rename_i ys e
      split at hw
      · rename_i hc
        obtain ⟨hc1, hc2, hc3⟩ := hc
        obtain ⟨a, vs, rfl, l, ho⟩ := itemsD_v hs e q
        rcases ho with ⟨zs, rfl, _⟩ | ⟨i, b, rfl, e0, hq⟩
        · cases hc3
        obtain ⟨its, rv, hl, hz⟩ := I.list hq
        obtain ⟨u, rfl, ru⟩ := vals1 rx
        cases ru
        obtain ⟨zs, z1, z2, z3, hzs⟩ := trip l rv
        have key : ∀ z ∈ zs, kvOf s.heap z.2.2 = keyD z.1 := fun z hz => by
          have hp : isPr z.1 = true := List.all_eq_true.mp hc1 z.1 (by rw [← z1]; exact List.mem_map.mpr ⟨z, hz, rfl⟩)
          exact kvOf_eq (pr_pair I hp (hzs z hz).1 (hzs z hz).2)
        refine SrtO.sorted_pairsO (k := kvOf s.heap) hl.isList (by rw [← rv.length]; exact hz) (fun x hx => ?_) fun h' p out h1 h2 kp hd hn => ?_
        · rw [← z3] at hx
          obtain ⟨z, hz', rfl⟩ := List.mem_map.mp hx
          have hp : isPr z.1 = true := List.all_eq_true.mp hc1 z.1 (by rw [← z1]; exact List.mem_map.mpr ⟨z, hz', rfl⟩)
          rw [key z hz']
          exact pr_pair I hp (hzs z hz').1 (hzs z hz').2
        · have O1 := SrtO.swo_lex (kvOf s.heap)
          have eo := isort_uniq O1 h1 h2
          have m1 : (isort (fun z y : D × V × Value => ltK z.1 y.1) zs).map (·.1) = isort ltK ys := by rw [← z1]; exact isort_map fun x hx y hy => rfl
          have m2 : (isort (fun z y : D × V × Value => ltK z.1 y.1) zs).map (·.2.2) = out := by
            rw [eo, ← z3]
            exact isort_map fun x hx y hy => by
              show SrtO.lexB _ _ = SrtO.lexB _ _
              rw [key x hx, key y hy]
          obtain ⟨w1, w2⟩ := untrip (zs := isort (fun z y : D × V × Value => ltK z.1 y.1) zs) (K := X.K) (ι := ι) (H := H) fun z hz => hzs z ((isort_perm zs).mem_iff.mp hz)
          rw [m1] at w1
          rw [m2] at w2
          obtain ⟨n, hn⟩ := hn
          have hpn : H p = none := I.hok.fresh hd
          obtain ⟨s2, le2, rr2⟩ := new_lst (w := ⟨X.K, tabs⟩) hs hpn w1
          refine ⟨.ref p, _, I.laid (o := .lst ((isort (fun z y : D × V × Value => ltK z.1 y.1) zs).map (·.2.1))) (t' := s.toks) kp hd ⟨?_, out, n, w2, hn⟩, rfl, hw _ _ _ le2 s2 rr2⟩
          rw [← w1.len, (isort_perm ys).length_eq]
          exact mx_le hc2
      · exact hw.elim
    · exact hw.elim
  · exact hw.elim
end
end Dv

namespace Dv
open PySem PySem.Spec PyProof.Rows L2

/-! ### t[::-1] -/
section
variable {prog : Program} {w : World} {A : Around} {E : Value → Shared → Prop} {s : Shared}
theorem adjust_rev (n : Nat) : Builtin.Slice.sliceAdjust none none (-1) (n : Int) = ((n : Int) - 1, -1) := by
  unfold Builtin.Slice.sliceAdjust
  simp
theorem places_rev (n : Nat) : Builtin.Slice.slicePlaces ((n : Int) - 1) (-1) (-1) = n := by
  unfold Builtin.Slice.slicePlaces
  simp
  try omega
theorem sliceApplied_rev {sl : Addr} {t : Tok} {n : Nat} {Q : Int × Int × Nat → Shared → Prop} (hs : s.heap.IsSliceOf sl .none .none (.int (-1) t))
    (h : Q ((n : Int) - 1, -1, n) s) : wpAny (model prog w) A (Builtin.Slice.sliceApplied (.ref sl) (pure (n : Int))) Q E s := by
  obtain ⟨os, hos, hcs, hds⟩ := id hs
  unfold Builtin.Slice.sliceApplied Builtin.Slice.sliceFields
  refine wpAny_bind (wpAny_bind (wpAny_field hos hds (x := .none) rfl (wpAny_bind (wpAny_field hos hds (x := .none) rfl (wpAny_bind (wpAny_field hos hds (x := .int (-1) t) rfl (wpAny_pure ?_)))))))
  refine wpAny_bind (HT.slicePart_ (.int (-1) t) ?_)
  show wpAny _ _ (if ((-1 : Int) == 0) = true then _ else _) _ _ s
  rw [if_neg (by decide)]
  refine wpAny_bind (HT.slicePart_ .none (wpAny_bind (HT.slicePart_ .none (wpAny_bind (wpAny_pure ?_)))))
  show wpAny _ _ (match Builtin.Slice.sliceAdjust none none (-1) (n : Int) with | (lo, hi) => pure (lo, (-1 : Int), Builtin.Slice.slicePlaces lo hi (-1))) _ _ s
  rw [adjust_rev n]
  show wpAny _ _ (pure ((n : Int) - 1, (-1 : Int), Builtin.Slice.slicePlaces ((n : Int) - 1) (-1) (-1))) _ _ s
  rw [places_rev]
  exact wpAny_pure h
theorem pick_rev (xs : Array Value) : ((List.range xs.size).filterMap fun (m : Nat) => xs[((xs.size : Int) - 1 + (m : Int) * (-1)).toNat]?).toArray = xs.toList.reverse.toArray := by
  have e : (List.range xs.size).filterMap (fun (m : Nat) => xs[((xs.size : Int) - 1 + (m : Int) * (-1)).toNat]?) = ((List.range xs.size).map fun k => xs.size - 1 - k).filterMap (xs[·]?) := by
    rw [List.filterMap_map]
    have cg : ∀ l : List Nat, (∀ m ∈ l, m < xs.size) → l.filterMap (fun (m : Nat) => xs[((xs.size : Int) - 1 + (m : Int) * (-1)).toNat]?) = l.filterMap ((fun x => xs[x]?) ∘ fun k => xs.size - 1 - k) := fun l => by
      induction l with
      | nil => intro _; rfl
      | cons a r ih =>
        intro h
        have ha := h a List.mem_cons_self
        have e2 : ((xs.size : Int) - 1 + (a : Int) * (-1)).toNat = xs.size - 1 - a := by omega
        have e3 : (fun (m : Nat) => xs[((xs.size : Int) - 1 + (m : Int) * (-1)).toNat]?) a = ((fun x => xs[x]?) ∘ fun k => xs.size - 1 - k) a := by
          show xs[((xs.size : Int) - 1 + (a : Int) * (-1)).toNat]? = xs[xs.size - 1 - a]?
          rw [e2]
        rw [List.filterMap_cons, List.filterMap_cons, ih fun m hm => h m (List.mem_cons_of_mem _ hm)]
        have e4 : xs[((xs.size : Int) - 1 + (a : Int) * (-1)).toNat]? = ((fun x => xs[x]?) ∘ fun k => xs.size - 1 - k) a := e3
        rw [e4]
    exact cg _ fun m hm => List.mem_range.mp hm
  rw [e, PySem.W.krv_range, List.filterMap_reverse, PySem.W.krv_all]
theorem getItem_tuple_rev {t sl : Addr} {items : Array Value} {tk : Tok} {Q : Value → Shared → Prop} (ht : IsTup s.heap t items) (hs : s.heap.IsSliceOf sl .none .none (.int (-1) tk))
    (h : Q (.ref s.heap.objs.size) { s with heap := s.heap.push { cls := .type "tuple", data := .seq items.toList.reverse.toArray } })
    (hsz : items.size ≤ sizeLine) : wpAny (model prog w) A (getItem (.ref t) (.ref sl)) Q E s := by
  have htake : sizeOk (.seq items.toList.reverse.toArray) := by
    show items.toList.reverse.toArray.size ≤ sizeLine
    rw [List.size_toArray, List.length_reverse, Array.length_toList]
    exact hsz
  obtain ⟨os, hos, hcs, hds⟩ := id hs
  have hTs : s.TypeIs (.ref sl) "slice" := ⟨os, hos, hcs⟩
  unfold getItem
  try with_reducible refine wpAny_holding ?_
  first | refine wpAny_bind (wpAny_pure ?_) | skip
  refine wpAny_bind (wpAny_sequenceKey ht.typeIs (by decide) ?_)
  refine wpAny_bind (wpAny_callSpecial?_slot (name := Str.ofString "__getitem__") ht.typeIs PyProof.Rows.slot_tuple_getitem
    (wpAny_call_entry PyProof.Rows.slot_tuple_getitem ht.typeIs entry_tuple_getitem ?_ (args_tuple_getitem _ _)))
  show wpAny _ _ (Builtin.Tuple.tupleItemsOf (.ref t) >>= _) _ _ s
  refine wpAny_bind (tupleItemsOf_ ht ?_)
  refine wpAny_bind (wpAny_typeOf hTs ?_)
  rw [if_pos (by decide)]
  refine wpAny_bind (sliceApplied_rev hs ?_)
  have hno : ¬ ((((items.size : Int) - 1) == 0 && (-1 : Int) == 1 && items.size == items.size) = true) := by
    intro q
    rw [Bool.and_eq_true, Bool.and_eq_true] at q
    exact absurd (eq_of_beq q.1.2) (by decide)
  show wpAny _ _ (if (((items.size : Int) - 1) == 0 && (-1 : Int) == 1 && items.size == items.size) = true then _ else _) _ _ s
  rw [if_neg hno, pick_rev]
  first
    | exact wpAny_bind (m := Builtin.Tuple.tupleExact _) (wpAny_newObj_type (wpAny_pure ⟨_, rfl, wpAny_pure h⟩) htake)
    | exact wpAny_bind (m := Builtin.Tuple.tupleExact _) (wpAny_newObj_type (wpAny_bind (wpAny_pure (wpAny_pure ⟨_, rfl, wpAny_pure h⟩))) htake)
    | exact wpAny_bind (wpAny_bind (m := Builtin.Tuple.tupleExact _) (wpAny_newObj_type (wpAny_pure (wpAny_pure ⟨_, rfl, wpAny_pure h⟩)) htake))
    | exact wpAny_bind (wpAny_bind (m := Builtin.Tuple.tupleExact _) (wpAny_newObj_type (wpAny_pure ⟨_, rfl, wpAny_pure h⟩) htake))
end
section
variable {X : Cx} {w : Wn} {EX : EXT} {lv : Lv} {σ : L2.St} {H : Hp} {ρ : Env} {S : Sto} {ι : List Addr} {e : Expr} {de : Den}
def tRevA (K : PySem.W.Frag) (te : TE) : TE := fun σ H Q => te σ H fun x H1 => ∃ a xs, x = .ref a ∧ ((SqL K H1 a xs ∧ ∀ p, H1 p = none → Q (.ref p) (upd H1 p (.lst xs.reverse))) ∨ (SqT K H1 a xs ∧ Fz.At H1 Q xs.reverse))
theorem pe_revA {te : TE} {k : Nat} {p1 p2 p3 pos : Pos} (he : PE X e te) : PE X (.Subscript e (.Slice none none (some (.UnaryOp .USub (.Constant (.int 1) k p1) p2)) p3) pos) (tRevA X.K te) := by
  refine ⟨fun pins s σ H Q I h => ?_⟩
  refine Subscript_ (thn (he.run pins s σ H _ I h) fun v s1 ⟨x, H1, I1, r1, q1⟩ => ?_)
  obtain ⟨a, xs, ex, q⟩ := q1
  subst ex
  cases r1
  have hst : PO X (some (.UnaryOp .USub (.Constant (.int 1) k p1) p2)) (tPart (tUn (rU fun i => .int (-i)) (tC (.int 1)))) := po_some (pe_un un_neg pe_int)
  refine wpAny_Slice (thn (po_none.run pins s1 σ H1 (fun o H2 => o = none ∧ H2 = H1) I1 ⟨rfl, rfl⟩) fun vl s2 ⟨l, H2, I2, pl, el, e2⟩ => ?_)
  subst el e2
  refine thn (po_none.run pins s2 σ H2 (fun o H3 => o = none ∧ H3 = H2) I2 ⟨rfl, rfl⟩) fun vu s3 ⟨u, H3, I3, pu, eu, e3⟩ => ?_
  subst eu e3
  refine thn (hst.run pins s3 σ H3 (fun o H4 => o = some (-1) ∧ H4 = H3) I3 ⟨1, rfl, -1, rfl, rfl, rfl⟩) fun vs s4 ⟨o, H4, I4, ps, eo, e4⟩ => ?_
  subst eo e4
  have I5 : Inv X pins σ H4 { s4 with heap := s4.heap.push { cls := .type "slice", data := .fields #[vl, vu, vs] } } := I4.kept (t' := s4.toks) fun b ob q => Heap.get?_push_of_some _ q
  show wpAny (model X.prog X.w) X.A (subscriptTail e (.Slice none none (some (.UnaryOp .USub (.Constant (.int 1) k p1) p2)) p3) (.ref a) (.ref s4.heap.objs.size)) (EP X pins σ Q) X.xe { s4 with heap := s4.heap.push { cls := .type "slice", data := .fields #[vl, vu, vs] } }
  rcases q with ⟨hx, q⟩ | ⟨hx, q⟩
  · obtain ⟨its, r, ht, hz⟩ := I5.list hx
    have hlen := r.length
    refine tail_any (ops := [.ref a, .ref s4.heap.objs.size]) ht.isList.typeIs (PySem.slot_list_getitem.lookup) ?_ (by with_unfolding_all rfl)
    refine wpAny_getItem_list_slice ht.isList (Heap.IsSliceOf.new _ vl vu vs) pl pu ps (by decide) ?_ (by rw [List.size_toArray]; omega)
    rw [PySem.W.krv_pick]
    refine ⟨.ref _, _, I5.laid (t' := s4.toks) (o := .lst xs.reverse) (fun b ob q => Heap.get?_push_of_some _ q) (Nat.le_refl _) ?_, rfl, q _ (I5.hok.fresh (Nat.le_refl _))⟩
    exact ⟨by rw [List.length_reverse]; exact hz, _, 0, r.reverse, Heap.get?_push_size _ rfl⟩
  · obtain ⟨its, r, ht, hz⟩ := I5.tuple hx
    have hlen := r.length
    cases pl
    cases pu
    cases ps with
    | int i tk =>
    refine tail_any (ops := [.ref a, .ref s4.heap.objs.size]) ht.typeIs (PyProof.Rows.slot_tuple_getitem.lookup) ?_ (by with_unfolding_all rfl)
    refine getItem_tuple_rev ht (Heap.IsSliceOf.new _ .none .none (.int (-1) tk)) ?_ (by rw [List.size_toArray]; omega)
    exact Fz.put I5 r.reverse (by rw [List.length_reverse]; exact hz) q
def revD : Op1 := fun d S => match itemsD d S with
  | some xs => if isRf d = true then .ok (.ref S.length) (S ++ [.lst true xs.reverse]) else .ok (.tup xs.reverse) S
  | none => .no
theorem pd_rev {tabs : List Addr} {k : Nat} {p1 p2 p3 pos : Pos} (he : PE X e (semE ⟨X.K, tabs⟩ EX lv de)) : PE X (.Subscript e (.Slice none none (some (.UnaryOp .USub (.Constant (.int 1) k p1) p2)) p3) pos) (semE ⟨X.K, tabs⟩ EX lv (dUn revD de)) := by
  refine PE.imp (pe_revA he) fun σ H Q h => ?_
  obtain ⟨ρ, S, ι, he, hs, hw⟩ := h
  refine stepE (Po := fun ι H => PV ⟨X.K, tabs⟩ ι H Q) he hs (fun l q => q.mono l) hw fun x S1 v H1 ι1 l1 s1 r1 e1 h1 => ?_
  have h1 := quiet_wp (W' := noX) h1
  unfold revD at h1
  split at h1
  · rename_i xs ex
    obtain ⟨a, vs, rfl, l, ho⟩ := itemsD_v s1 ex r1
    rcases ho with ⟨zs, rfl, hq⟩ | ⟨i, b, rfl, e0, hq⟩
    · refine ⟨a, vs, rfl, .inr ⟨hq.t, fun p _ hp => ?_⟩⟩
      exact h1 _ _ ι1 (le_upd hp) (s1.extra hp) (repT hp l.rev)
    · refine ⟨a, vs, rfl, .inl ⟨hq, fun p hp => ?_⟩⟩
      obtain ⟨s2, le2, rr2⟩ := new_lst (w := ⟨X.K, tabs⟩) s1 hp l.rev
      exact h1 _ _ _ le2 s2 rr2
  · exact h1.elim

/-! ### {} and {i: e} -/
theorem new_dk {ι : List Addr} {S : Sto} {H : Hp} {p : Addr} (hs : SRep w.K w.tabs ι S H) (hp : H p = none) :
    SRep w.K w.tabs (ι ++ [p]) (S ++ [.dk []]) (upd H p (.dK [])) ∧ Le ι H (ι ++ [p]) (upd H p (.dK [])) ∧ Rep w.K (ι ++ [p]) (upd H p (.dK [])) (.ref S.length) (.ref p) := by
  obtain ⟨h1, h2⟩ := hs.new (u := .dK []) (o := .dk []) hp rfl ⟨[], upd_same, rfl, rfl⟩
  exact ⟨h1, h2, p, rfl, by rw [hs.len, List.getElem?_append_right (Nat.le_refl _)]; simp⟩
def dDk0 : Den := fun _ _ S => .ok (.ref S.length) (S ++ [.dk []])
theorem pd_dk0 {pos : Pos} : PE X (.Dict [] [] pos) (semE w EX lv dDk0) := by
  refine PE.imp pe_dnewK fun σ H Q h => ?_
  obtain ⟨ρ, S, ι, he, hs, hw⟩ := h
  intro p hp
  obtain ⟨s2, l2, r2⟩ := new_dk hs hp
  exact hw _ _ _ l2 s2 r2
/-- one pair, the key a constant -/
def dDk1 (k : Key) (e : Den) : Den := fun lv ρ S => (e lv ρ (S ++ [.dk []])).bind fun y S1 => match S1[S.length]? with
  | some (.dk []) => .ok (.ref S.length) (S1.set S.length (.dk [(k, y)]))
  | _ => .no
end
end Dv

namespace Dv
open PySem PySem.Spec PyProof.Rows L2 Gr

/-- an own def: its name, where it stands, its data, its parameters -/
structure FnE where
  x : Str
  f : Addr
  fd : FuncData
  ps : List Str
def dCallF (i n : Nat) (a : DenA) : Den := fun lv ρ S => (a lv ρ S).bind fun xs S1 => if xs.length = n then lv 0 i xs S1 else .no
/-- an error of the class with this number -/
def XW (cl : Option (Nat → Value)) (E : XK) (c : Nat) (H : Hp) : Prop := match cl with
  | none => False
  | some g => E (g c) none H
/-- what a def promises, by its meaning -/
def spD (w : Wn) (cl : Option (Nat → Value)) (n : Nat) (fn : List D → Sto → R D) : Sp := fun vs H Q E => ∃ S ι ds, vs.length = n ∧ SRep w.K w.tabs ι S H ∧ RepL w.K ι H ds vs ∧
  (fn ds S).wp (PV w ι H Q) (fun c S' => ∀ H' ι', Le ι H ι' H' → SRep w.K w.tabs ι' S' H' → XW cl E c H')
structure LvOk (P : Program) (w : World) (K : PySem.W.Frag) (mg : Str → Option Value) (base : Heap) (CX : CXT) (wn : Wn) (cl : Option (Nat → Value)) (fs : List FnE) (k : Nat) (lv : Lv) : Prop where
  ok : ∀ j, j ≤ k → ∀ i e, fs[i]? = some e → Gr.FnG P w K mg base CX (k - j) e.f e.fd e.ps (spD wn cl e.ps.length (lv j i))
theorem LvOk.dn {P : Program} {w : World} {K : PySem.W.Frag} {mg : Str → Option Value} {base : Heap} {CX : CXT} {wn : Wn} {cl : Option (Nat → Value)} {fs : List FnE} {k : Nat} {lv : Lv} (L : LvOk P w K mg base CX wn cl fs (k + 1) lv) : LvOk P w K mg base CX wn cl fs k lv.dn :=
  ⟨fun j hj i e h => by
    have q := L.ok (j + 1) (by omega) i e h
    rw [show k + 1 - (j + 1) = k - j from by omega] at q
    exact q⟩
structure FnsOk (K : PySem.W.Frag) (mg : Str → Option Value) (fs : List FnE) : Prop where
  all : ∀ (i : Nat) (e : FnE), fs[i]? = some e → mg e.x = some (.ref e.f) ∧ PySem.W.keepIn K (.ref e.f) = true ∧ Binds K e.fd e.ps []
/-- the wish of a call's error -/
def EE (cl : Option (Nat → Value)) (EX : EXT) (σ : L2.St) : XK := fun cls d H => ∃ c g, cl = some g ∧ cls = g c ∧ d = none ∧ EX c σ H
section
variable {X : Cx} {EX : EXT} {lv : Lv} {tabs : List Addr} {CX : CXT} {cl : Option (Nat → Value)} {fs : List FnE} {k i n : Nat} {x : Str} {p pos : Pos} {a : Expr} {es : List Expr} {ra : DenA} {e : FnE}
theorem pd_callF (L : LvOk X.prog X.w X.K X.mg X.base CX ⟨X.K, tabs⟩ cl fs k lv) (T : FnsOk X.K X.mg fs) (hr : RoomG k X.A) (hp : ∀ σ, PassesAt CX X σ (EE cl EX σ)) (hq : cl = none → EX = noE) (hi : fs[i]? = some e) (hn : e.ps.length = n) (hx : e.x = x) (hg : Gl X x)
    (ha : PA X (a :: es) (semA ⟨X.K, tabs⟩ EX lv ra)) (hdb : (x == ("__debug__" : Str)) = false) (he : starEach (a :: es) X.env = (false, eval a X.env) :: starEach es X.env) (hpl : (backTo pos (starEach es X.env)).any (·.1) = false) :
    PE X (.Call (.Name x p) (a :: es) [] pos) (semE ⟨X.K, tabs⟩ EX lv (dCallF i n ra)) := by
  subst hx
  obtain ⟨t1, t2, t3⟩ := T.all i e hi
  have F := L.ok 0 (Nat.zero_le _) i e hi
  rw [Nat.sub_zero] at F
  refine PE.imp (Gr.pe_callG F hr hg t1 t2 t3 hp ha hdb he hpl) fun σ H Q h => ?_
  obtain ⟨ρ, S, ι, h0, hs, hw⟩ := h
  refine stepA (Po := fun ι H => PV ⟨X.K, tabs⟩ ι H Q) h0 hs (fun l q => q.mono l) hw fun xs S1 vs H1 ι1 l1 s1 r1 e1 h1 => ?_
  by_cases hl : xs.length = n
  · rw [if_pos hl] at h1
    refine ⟨S1, ι1, xs, by rw [← r1.len, hl, hn], s1, r1, R.wp_mono h1 (fun _ _ q => q) fun c S2 q => ?_⟩
    intro H2 ι2 l2 s2
    have z := q H2 ι2 l2 s2
    cases hc : cl with
    | none => rw [hq hc] at z; exact z.elim
    | some g => exact ⟨c, g, rfl, rfl, rfl, z⟩
  · rw [if_neg hl] at h1
    exact h1.elim
theorem pass_0 {X : Cx} {E : XK} (σ : L2.St) : PassesAt CX0 X σ E := fun _ _ _ _ _ _ h => h.elim
theorem pass_00 {X : Cx} {cl : Option (Nat → Value)} {EX : EXT} : ∀ σ : L2.St, PassesAt CX0 X σ (EE cl EX σ) := fun σ => pass_0 σ
end
/-! ### a def -/
def startE (n : Nat) (ds : List D) : Env := ds.map some ++ List.replicate (n - ds.length) none
def endF : R Fl → R D
  | .ok (.nx _) S1 => .ok .non S1
  | .ok (.rt d) S1 => .ok d S1
  | .ok (.xc c _) S1 => .ex c S1
  | _ => .no
def runF (body : DenS) (n : Nat) (lv : Lv) (ds : List D) (S : Sto) : R D := endF (body lv (startE n ds) S)
theorem start_rep {K : PySem.W.Frag} {ι : List Addr} {H : Hp} {N : List Str} {ds : List D} {vs : List V} (r : RepL K ι H ds vs) : ERep K ι H (startE N.length ds) (L2.start N vs) := by
  have hl := r.len
  refine ⟨by unfold startE L2.start; simp [hl], fun i d e => ?_⟩
  unfold startE at e
  unfold L2.start
  by_cases hi : i < ds.length
  · rw [List.getElem?_append_left (by simpa using hi), List.getElem?_map] at e
    cases q : ds[i]? with
    | none => rw [q] at e; cases e
    | some d' =>
      rw [q] at e
      cases e
      obtain ⟨v, h1, h2⟩ := r.get q
      exact ⟨v, by rw [List.getElem?_append_left (by rw [List.length_map, ← hl]; exact hi), List.getElem?_map, h1]; rfl, h2⟩
  · rw [List.getElem?_append_right (by simpa using Nat.le_of_not_lt hi)] at e
    have := List.getElem?_replicate (n := N.length - ds.length) (a := (none : Option D)) (i := i - (ds.map some).length)
    rw [this] at e
    split at e <;> cases e
theorem fn_ok0 {P : Program} {w : World} {K : PySem.W.Frag} {mg : Str → Option Value} {base : Heap} {k : Nat} {f : Addr} {name qual : Str} {params : Arguments} {body : List Stmt} {scope : Scope} {dV kV doc pm cdv ct oc : Value} {an od : Option Addr}
    {osl : Array (Option Value)} {N ps : List Str} {tabs : List Addr} {lv : Lv} {den : DenS} (lk : K.lookup f = some ⟨oc, od, .func (PySem.W.fnOf name qual params body scope dV kV doc pm an cdv ct), osl⟩) (hcd : PySem.W.codeIn K cdv qual = true) (S : FnScope N ps scope)
    (hbody : ∀ (A : Around) (outer : List PySem.Env) (s : Shared) (H : Hp) (E : XK), RoomG k (A.deeper (envOfC qual scope s.heap.objs.size f cdv)) →
      PSs (cxOf CX0 P w K mg base N qual scope f cdv A outer s H E).nox body (semS ⟨K, tabs⟩ noE lv den)) :
    Gr.FnG P w K mg base CX0 (k + 1) f (PySem.W.fnOf name qual params body scope dV kV doc pm an cdv ct) ps (spD ⟨K, tabs⟩ none ps.length (runF den N.length lv)) := by
  refine Gr.fn_ofG lk hcd S (fun vs H Q E h => ?_) fun A outer s H vs Q E hr h => ?_
  · obtain ⟨_, _, _, hl, _⟩ := h
    exact hl
  · obtain ⟨St, ι, ds, hl, hs, r, hw⟩ := h
    refine ⟨_, (hbody A outer s H E hr).nox, _, St, ι, start_rep r, hs, ?_⟩
    unfold runF at hw
    cases e : den lv (startE N.length ds) St with
    | ok a S1 =>
      rw [e] at hw
      cases a with
      | nx ρ => exact fun σ' H' ι' l s1 e1 => hw .non H' ι' l s1 rfl
      | rt d => exact hw
      | xc c ρ => exact fun σ' H' ι' l s1 e1 => hw H' ι' l s1
      | bk ρ => exact hw.elim
      | ct ρ => exact hw.elim
    | ex c S1 => rw [e] at hw; exact hw.elim
    | no => rw [e] at hw; exact hw.elim
end Dv

namespace Dv
open PySem PySem.Spec PyProof.Rows L2 Gr

/-! ### levels -/
abbrev Bodies := List (DenS × Nat)
/-- the defs' meaning with k calls allowed; the second number: so many fewer -/
def Phi (bs : Bodies) : Nat → Lv
  | 0 => fun _ _ _ _ => .no
  | k + 1 => fun j => match j with
    | 0 => fun i ds S => match k with
      | 0 => .no
      | _ + 1 => match bs[i]? with
        | some b => runF b.1 b.2 (Phi bs k) ds S
        | none => .no
    | j + 1 => Phi bs k j
theorem Phi_run {bs : Bodies} {k i : Nat} {b : DenS} {n : Nat} {ds : List D} {S : Sto} (h : bs[i]? = some (b, n)) : Phi bs (k + 2) 0 i ds S = runF b n (Phi bs (k + 1)) ds S := by
  show (match bs[i]? with | some b => runF b.1 b.2 (Phi bs (k + 1)) ds S | none => .no) = _
  rw [h]
theorem Phi_sub {bs : Bodies} : ∀ {k j : Nat}, j ≤ k → Phi bs k j = Phi bs (k - j) 0
  | _, 0, _ => by rw [Nat.sub_zero]
  | k + 1, j + 1, h => by
    show Phi bs k j = _
    rw [Phi_sub (Nat.le_of_succ_le_succ h), Nat.succ_sub_succ]
section
variable {P : Program} {w : World} {K : PySem.W.Frag} {mg : Str → Option Value} {base : Heap} {CX : CXT} {wn : Wn} {cl : Option (Nat → Value)}
theorem no_fn {k n : Nat} {f : Addr} {fd : FuncData} {ps : List Str} {g : List D → Sto → R D} (h : ∀ ds S, g ds S = .no) : Gr.FnG P w K mg base CX k f fd ps (spD wn cl n g) := by
  have no : ∀ vs H Q E, ¬ spD wn cl n g vs H Q E := fun vs H Q E hh => by
    obtain ⟨S, ι, ds, _, _, _, hw⟩ := hh
    rw [h] at hw
    exact hw
  exact ⟨fun vs H Q E h => absurd h (no vs H Q E), fun A outer s H args us vs Q E _ _ _ _ h => absurd h (no vs H Q E)⟩
theorem phi_ok {fs : List FnE} {bs : Bodies} (step : ∀ (k : Nat) (lv : Lv), LvOk P w K mg base CX wn cl fs (k + 1) lv → ∀ (i : Nat) (e : FnE) (b : DenS × Nat), fs[i]? = some e → bs[i]? = some b → Gr.FnG P w K mg base CX (k + 2) e.f e.fd e.ps (spD wn cl e.ps.length (runF b.1 b.2 lv))) :
    ∀ k, LvOk P w K mg base CX wn cl fs k (Phi bs k) := by
  have one : ∀ m, (∀ m', m' < m → ∀ (i : Nat) (e : FnE), fs[i]? = some e → Gr.FnG P w K mg base CX m' e.f e.fd e.ps (spD wn cl e.ps.length (Phi bs m' 0 i))) → ∀ (i : Nat) (e : FnE), fs[i]? = some e → Gr.FnG P w K mg base CX m e.f e.fd e.ps (spD wn cl e.ps.length (Phi bs m 0 i)) := by
    intro m ih i e he
    match m, ih with
    | 0, _ => exact no_fn fun _ _ => rfl
    | 1, _ => exact no_fn fun _ _ => rfl
    | k + 2, ih =>
      cases hb : bs[i]? with
      | none =>
        refine no_fn fun ds S => ?_
        show (match bs[i]? with | some b => runF b.1 b.2 (Phi bs (k + 1)) ds S | none => .no) = _
        rw [hb]
      | some b =>
        have L : LvOk P w K mg base CX wn cl fs (k + 1) (Phi bs (k + 1)) := ⟨fun j hj i' e' h' => by
          rw [Phi_sub hj]
          exact ih (k + 1 - j) (by omega) i' e' h'⟩
        have q := step k _ L i e b he hb
        have eq : Phi bs (k + 2) 0 i = runF b.1 b.2 (Phi bs (k + 1)) := by
          funext ds S
          exact Phi_run (b := b.1) (n := b.2) hb
        rw [eq]
        exact q
  have all : ∀ m (i : Nat) (e : FnE), fs[i]? = some e → Gr.FnG P w K mg base CX m e.f e.fd e.ps (spD wn cl e.ps.length (Phi bs m 0 i)) := by
    intro m
    induction m using Nat.strongRecOn with
    | ind m ih => exact one m ih
  exact fun k => ⟨fun j hj i e he => by rw [Phi_sub hj]; exact all (k - j) i e he⟩
end

/-! ### the rules, in short -/
section
variable {X : Cx} {w : Wn} {tabs : List Addr} {EX : EXT} {lv : Lv} {a b c e : Expr} {es rest : List Expr} {da db de : Den} {ra : DenA} {ta tb tc : DenT} {p p2 p3 pos apos cpos : Pos} {x : Str}
theorem xv (i : Nat) (hv : Vis X.env.scope x) (hN : X.N[i]? = some x := by rfl) (hd : (x == ("__debug__" : Str)) = false := by decide) (hcd : (x == ("__classdict__" : Str)) = false := by decide) : PE X (.Name x pos) (semE w EX lv (dVar i)) := pd_var hN hv hd hcd
theorem xint {i : Int} {j : Nat} : PE X (.Constant (.int i) j pos) (semE w EX lv (dC (.int i))) := pd_c pe_int fun _ _ => rfl
theorem xbl {i : Bool} {j : Nat} : PE X (.Constant (.bool i) j pos) (semE w EX lv (dC (.bl i))) := pd_c pe_bl fun _ _ => rfl
theorem xnon {j : Nat} : PE X (.Constant .none j pos) (semE w EX lv (dC .non)) := pd_c pe_non fun _ _ => rfl
theorem xstr {i : Str} {j : Nat} : PE X (.Constant (.str i) j pos) (semE w EX lv (dC (.str i))) := pd_c pe_str fun _ _ => rfl
theorem xcons {es : List Expr} (ha : PE X a (semE w EX lv da)) (hr : PA X es (semA w EX lv ra)) (hst : starEach (a :: es) X.env = (false, eval a X.env) :: starEach es X.env := by rfl) : PA X (a :: es) (semA w EX lv (dCons da ra)) := pd_cons ha hr hst
theorem xcmp {op : CmpOp} {o : Op2} (ho : OpR X (compareOp op) (rOp w o)) (ha : PE X a (semE w EX lv da)) (hb : PE X b (semE w EX lv db)) (h : op ≠ .In := by decide) (h2 : op ≠ .NotIn := by decide) : PE X (.Compare a [op] [b] pos) (semE w EX lv (dOp o da db)) := pd_cmp ho ha hb (nomark b h h2)
theorem ycmp {op : CmpOp} {o : Op2} (ho : OpR X (compareOp op) (rOp w o)) (ha : PE X a (semE w EX lv da)) (hb : PE X b (semE w EX lv db)) (h : op ≠ .In := by decide) (h2 : op ≠ .NotIn := by decide) : PT X (.Compare a [op] [b] pos) (semT w EX lv (dBl (dOp o da db))) := td_cmp ho ha hb (nomark b h h2)
theorem ytru (ha : PE X a (semE ⟨X.K, tabs⟩ EX lv da)) (he : ∀ whole, isTrue a X.env whole = (do let v ← whole; standAt a.pos; holding [v] (truthy v)) := by intro _; rfl) : PT X a (semT ⟨X.K, tabs⟩ EX lv (dTru da)) := td_tru ha he
theorem xix (ha : PE X a (semE ⟨X.K, tabs⟩ EX lv da)) (hb : PE X b (semE ⟨X.K, tabs⟩ EX lv db)) (hs : PlainIx b := by intro _ _; rfl) : PE X (.Subscript a b pos) (semE ⟨X.K, tabs⟩ EX lv (dOp ixD da db)) := pd_ix ixd ha hb hs
theorem xlen (hm : X.mg "len" = none) (ha : PA X (e :: es) (semA ⟨X.K, tabs⟩ EX lv ra)) (hg : Gl X "len" := by rfl) (he : starEach (e :: es) X.env = (false, eval e X.env) :: starEach es X.env := by rfl) (hpl : (backTo pos (starEach es X.env)).any (·.1) = false := by rfl) :
    PE X (.Call (.Name "len" p) (e :: es) [] pos) (semE ⟨X.K, tabs⟩ EX lv (dCl lenD ra)) := pd_callB crd_len hg hm bi_len ha (by decide) (by decide) he hpl
theorem xabs (hm : X.mg "abs" = none) (ha : PA X (e :: es) (semA ⟨X.K, tabs⟩ EX lv ra)) (hg : Gl X "abs" := by rfl) (he : starEach (e :: es) X.env = (false, eval e X.env) :: starEach es X.env := by rfl) (hpl : (backTo pos (starEach es X.env)).any (·.1) = false := by rfl) :
    PE X (.Call (.Name "abs" p) (e :: es) [] pos) (semE ⟨X.K, tabs⟩ EX lv (dCl absD ra)) := pd_callB crd_abs hg hm bi_abs ha (by decide) (by decide) he hpl
theorem xmin (hm : X.mg "min" = none) (ha : PA X (e :: es) (semA ⟨X.K, tabs⟩ EX lv ra)) (hg : Gl X "min" := by rfl) (he : starEach (e :: es) X.env = (false, eval e X.env) :: starEach es X.env := by rfl) (hpl : (backTo pos (starEach es X.env)).any (·.1) = false := by rfl) (hc : X.calm = true := by rfl) :
    PE X (.Call (.Name "min" p) (e :: es) [] pos) (semE ⟨X.K, tabs⟩ EX lv (dCl minD ra)) := pd_callB (crd_min hc) hg hm bi_min ha (by decide) (by decide) he hpl
theorem xmax (hm : X.mg "max" = none) (ha : PA X (e :: es) (semA ⟨X.K, tabs⟩ EX lv ra)) (hg : Gl X "max" := by rfl) (he : starEach (e :: es) X.env = (false, eval e X.env) :: starEach es X.env := by rfl) (hpl : (backTo pos (starEach es X.env)).any (·.1) = false := by rfl) (hc : X.calm = true := by rfl) :
    PE X (.Call (.Name "max" p) (e :: es) [] pos) (semE ⟨X.K, tabs⟩ EX lv (dCl maxD ra)) := pd_callB (crd_max hc) hg hm bi_max ha (by decide) (by decide) he hpl
theorem xsorted (hm : X.mg "sorted" = none) (ha : PA X (e :: es) (semA ⟨X.K, tabs⟩ EX lv ra)) (hg : Gl X "sorted" := by rfl) (he : starEach (e :: es) X.env = (false, eval e X.env) :: starEach es X.env := by rfl) (hpl : (backTo pos (starEach es X.env)).any (·.1) = false := by rfl) :
    PE X (.Call (.Name "sorted" p) (e :: es) [] pos) (semE ⟨X.K, tabs⟩ EX lv (dCl sortedD ra)) := pd_callB crd_sorted hg hm bi_sorted ha (by decide) (by decide) he hpl
theorem xtuple (hm : X.mg "tuple" = none) (ha : PA X (e :: es) (semA ⟨X.K, tabs⟩ EX lv ra)) (hg : Gl X "tuple" := by rfl) (he : starEach (e :: es) X.env = (false, eval e X.env) :: starEach es X.env := by rfl) (hpl : (backTo pos (starEach es X.env)).any (·.1) = false := by rfl) :
    PE X (.Call (.Name "tuple" p) (e :: es) [] pos) (semE ⟨X.K, tabs⟩ EX lv (dCl tupleD ra)) := pd_callTy crd_tuple hg hm bt_tuple ha (by decide) (by decide) he hpl
theorem xlist (hm : X.mg "list" = none) (ha : PA X (e :: es) (semA ⟨X.K, tabs⟩ EX lv ra)) (hg : Gl X "list" := by rfl) (he : starEach (e :: es) X.env = (false, eval e X.env) :: starEach es X.env := by rfl) (hpl : (backTo pos (starEach es X.env)).any (·.1) = false := by rfl) :
    PE X (.Call (.Name "list" p) (e :: es) [] pos) (semE ⟨X.K, tabs⟩ EX lv (dCl listD ra)) := pd_callTy crd_list hg hm bt_list ha (by decide) (by decide) he hpl
theorem xmt {m : OpM} {o : Expr} {name : Str} {id : String} (slot : Slot "list" name id) (hty : typeOf (.builtin id) = pure (.type "method_descriptor")) (hm : MtR X id (rMt ⟨X.K, tabs⟩ m)) (ho : PE X o (semE ⟨X.K, tabs⟩ EX lv da)) (ha : PA X (e :: es) (semA ⟨X.K, tabs⟩ EX lv ra))
    (hbase : attributeBase o name X.env (eval o X.env) = eval o X.env := by rfl)
    (hfew : ((backTo cpos (starEach (e :: es) X.env)).all (fun x => !x.1) && (backToKw cpos (keywordEach [] X.env)).all (fun x => x.1.isSome)
      && decide ((e :: es).length + ([] : List Keyword).length + (if ([] : List Keyword).isEmpty then 0 else 1) < 30)) = true := by rfl)
    (hline : (apos.endLine == cpos.line) = true := by rfl) (hs : starEach (e :: es) X.env = (false, eval e X.env) :: starEach es X.env := by rfl) (hplain : (backTo cpos (starEach es X.env)).any (·.1) = false := by rfl) :
    PE X (.Call (.Attribute o name apos) (e :: es) [] cpos) (semE ⟨X.K, tabs⟩ EX lv (dMt m da ra)) := pd_mt slot hty hm ho ha hbase hfew hline hs hplain
theorem xcall {CX : CXT} {cl : Option (Nat → Value)} {fs : List FnE} {k n : Nat} {e0 : FnE} (i : Nat) (L : LvOk X.prog X.w X.K X.mg X.base CX ⟨X.K, tabs⟩ cl fs k lv) (T : FnsOk X.K X.mg fs) (hr : RoomG k X.A) (hp : ∀ σ, PassesAt CX X σ (EE cl EX σ)) (hq : cl = none → EX = noE) (hi : fs[i]? = some e0) (hx : e0.x = x) (hn : e0.ps.length = n)
    (ha : PA X (a :: es) (semA ⟨X.K, tabs⟩ EX lv ra)) (hg : Gl X x := by rfl) (hdb : (x == ("__debug__" : Str)) = false := by decide) (he : starEach (a :: es) X.env = (false, eval a X.env) :: starEach es X.env := by rfl) (hpl : (backTo pos (starEach es X.env)).any (·.1) = false := by rfl) :
    PE X (.Call (.Name x p) (a :: es) [] pos) (semE ⟨X.K, tabs⟩ EX lv (dCallF i n ra)) := pd_callF L T hr hp hq hi hn hx hg ha hdb he hpl
theorem zexpr {st : DenS} (ha : PE X e (semE w EX lv de)) (hs : swapsWith e none pos.line X.env = pure false := by rfl) : PS X (.Expr e pos) (semS w EX lv (sExpr de)) := sd_expr ha hs
theorem gname (i : Nat) (hN : X.N.Nodup) (hx : Loc X.env.scope x) (hf : X.fn x = true ∨ X.env.scope.names.lookup x = some .local) (hi : X.N[i]? = some x := by rfl) : PG X (.Name x pos) (semG w (.nm i)) := gd_name hN hi hx hf
theorem gcons {es : List Expr} {i : Nat} {is : List Nat} (h1 : PG X e (semG w (.nm i))) (h2 : PGs X es (semGs w is)) (hs : (assignEach (e :: es) X.env).map (·.2) = assign e X.env :: (assignEach es X.env).map (·.2) := by rfl) : PGs X (e :: es) (semGs w (i :: is)) := gds_cons h1 h2 hs
theorem gtup {es : List Expr} {k : Nat} {is : List Nat} (h : PGs X es (semGs ⟨X.K, tabs⟩ is)) (hc : X.calm = true := by rfl) (hn : (assignEach es X.env).length = is.length := by rfl) (hst : (assignEach es X.env).findIdx? (·.1) = none := by rfl) :
    PG X (.Tuple es k pos) (semG ⟨X.K, tabs⟩ (.tp is)) := gd_tup hc h hn hst
theorem zasg {tg : Expr} {t : Tg} (ha : PE X e (semE w EX lv de)) (hg : PG X tg (semG w t)) (hs : swapsWithSole [tg] e pos.line X.env = pure false := by rfl) (hw : swappedStores [tg] e X.env = pure none := by rfl) (h1 : (assignEach [tg] X.env).map (·.2) = [assign tg X.env] := by rfl) :
    PS X (.Assign [tg] e pos) (semS w EX lv (sAsg t de)) := sd_asg ha hg hs hw h1
theorem zsub {o i : Expr} {dox di : Den} (ho : PE X o (semE ⟨X.K, tabs⟩ EX lv dox)) (hi : PE X i (semE ⟨X.K, tabs⟩ EX lv di)) (ha : PE X e (semE ⟨X.K, tabs⟩ EX lv de))
    (hasg : ∀ v, assign (.Subscript o i p2) X.env v = (do
      let ov ← holding [v] (eval o X.env)
      let iv ← holding [v, ov] (eval i X.env)
      standAt p2
      holding [v, ov, iv] (setItem ov iv v)
      release [v, ov, iv] []) := by intro _; rfl) (hs : swapsWithSole [.Subscript o i p2] e pos.line X.env = pure false := by rfl) (hw : swappedStores [.Subscript o i p2] e X.env = pure none := by rfl) (h1 : (assignEach [.Subscript o i p2] X.env).map (·.2) = [assign (.Subscript o i p2) X.env] := by rfl) :
    PS X (.Assign [.Subscript o i p2] e pos) (semS ⟨X.K, tabs⟩ EX lv (sSub dox di de)) := sd_sub ho hi ha hasg hs hw h1
theorem irng1 {tg : Expr} (hm : X.mg "range" = none) (ha : PA X [a] (semA w EX lv ra)) (hg : Gl X "range" := by rfl) (hs : starEach [a] X.env = [(false, eval a X.env)] := by rfl) : PI X tg (.Call (.Name "range" p) [a] [] pos) (semI w EX lv (iRange1 ra)) := id_range1 hg hm ha hs
theorem irng2 {tg : Expr} (hm : X.mg "range" = none) (ha : PA X [a, b] (semA w EX lv ra)) (hg : Gl X "range" := by rfl) (hs : starEach [a, b] X.env = [(false, eval a X.env), (false, eval b X.env)] := by rfl) (hs2 : starEach [b] X.env = [(false, eval b X.env)] := by rfl) :
    PI X tg (.Call (.Name "range" p) [a, b] [] pos) (semI w EX lv (iRange2 ra)) := id_range2 hg hm ha hs hs2
theorem zfor {di : DenI} {t : Tg} {bd : DenS} {bs : List Stmt} {tg iter : Expr} (hp : PassesOwn (model X.prog X.w) X.A X.env X.xe) (hi : PI X tg iter (semI w EX lv di)) (hg : PG X tg (semG w t)) (hb : PSs X bs (semS w EX lv bd))
    (hc : X.calm = true := by rfl) (hs : ∀ x, foldedSetIterable iter X.env x = pure x := by intro _; rfl) : PS X (.For tg iter bs [] pos) (semS w EX lv (sFor di t bd)) := sd_for hp hc hi hg hb hs
theorem xlc {elt tg iter : Expr} {ifs : List Expr} {scope : Scope} {di : DenI} {t : Tg} (own : List (Str × Nat)) (hN : X.N.Nodup) (hi : PI X tg iter (semI w EX lv di)) (ok : BlkOk X.N X.env.scope scope own) (hp : LParts X scope tg ifs elt (semG w t) (semT w noE lv tc) (semE w noE lv de))
    (hv : ∀ i ∈ t.slots, i ∈ own.map (·.2) := by decide) (hc : X.calm = true := by rfl) (hs : ∀ x, foldedSetIterable iter X.env x = pure x := by intro _; rfl) :
    PE X (.ListComp elt [⟨tg, iter, ifs, 0⟩] scope pos) (semE w EX lv (dLc di t tc de (own.map (·.2)))) := pd_lc hc hN hi ok hv hp hs
theorem ptsYes : PTs X [] (semT w EX lv tYesD) := ⟨fun pins s σ H Q I h => wpAny_tests_nil (by
  obtain ⟨ρ, S, ι, he, hs, hw⟩ := h
  exact ⟨H, I, PB.now hw hs⟩)⟩
end
end Dv

namespace Dv
open PySem PySem.Spec PyProof.Rows L2 Gr

/-- what is wanted of the law's def -/
def LawG (l : PySem.W.OpenLaw) (w : World) (K : PySem.W.Frag) (CX : CXT) (k n : Nat) (x : Str) (mg : Str → Option Value) (fa : Addr) (h : Heap) : Prop :=
  ∃ (fd : FuncData) (tb : List (Addr × Addr)) (sp : Sp), (∀ p ∈ tb, h.get? p.2 = some { cls := .none, data := .fields #[] }) ∧ (∀ p ∈ tb, K.lookup p.2 = none) ∧ (∀ p ∈ tb, PySem.W.CodeHd h p.1 p.2) ∧ (∀ (t : Shared) (u : Value), BindsTo t fd ⟨[u], []⟩ [(x, u)]) ∧
    (∀ (H : Hp) (a : Addr) (ns : List Int), ns.length ≤ n → (∀ z ∈ ns, Builtin.Int.intBits z ≤ 1048576) → (∀ p ∈ tb, H p.2 = some (.tbl #[])) → SqL K H a (ns.map V.int) → sp [.ref a] H (fun v _ => v = .bl true) fun _ _ _ => False) ∧
    ∀ base : Heap, K.In base → base.Ns mainGlobals mg → (∀ p ∈ tb, LamX.TabB base mg p.1 p.2) → FnG l.prog w K mg base CX k fa fd [x] sp
/-- the tables of the defs with these names are empty -/
def TabsAt (K : PySem.W.Frag) (mg : Str → Option Value) (h : Heap) (xs : List Str) : Prop := ∀ x ∈ xs, ∀ f, mg x = some (.ref f) → LamX.OwnTab K f h
theorem walk_all {l : PySem.W.OpenLaw} {n k : Nat} {q : Program} {loose : List Str} {XP : (Str → Option Value) → Heap → Prop} {YP : World → Heap → Prop} {d : DefRec} {K : Params → PySem.W.Frag} {CX : World → CXT} {x : Str} (xs : List Str)
    (hn : l.most = some n) (hn2 : n ≤ sizeLine) (hdf : d.params.defaults = []) (hr : RoomG k callerA) (hrec : (xs.all fun y => (recsOf q).any fun e => e.name == y) = true) (hY : ∀ (w : World) (h : Heap), YP w h → (K w.params).In h)
    (F : ∀ (w : World) (mg : Str → Option Value) (fa : Addr) (h : Heap), YP w h → (K w.params).In h → h.Ns mainGlobals mg → mg d.name = some (.ref fa) → TabsAt (K w.params) mg h xs → LawG l w (K w.params) (CX w) k n x mg fa h)
    (hCX : ∀ (w : World) (H : Hp) (s : Shared) (e : Value) (s' : Shared), CX w [] H s (fun _ _ _ => False) e s' → False) :
    PySem.W.WalkO q loose XP YP l.row.toRowW d [] (fun f vs => PySem.call f vs) := by
  refine Att.attach_callB hn hdf fun w s0 s1 mg mb fa o pm cd doc a vs ns G Y ho hd hcd hmg hobj hints hlen hbits hg => ?_
  have X0 := hY w _ Y
  have tb : TabsAt (K w.params) mg s1.heap xs := by
    intro y hy f hf c P o1 fd1 e dd vs1 sl k1 k2 k3 k4 k5
    obtain ⟨r, hm, hr1⟩ := List.any_eq_true.mp (List.all_eq_true.mp hrec y hy)
    obtain ⟨a', o', fd', c', P', t1, t2, t3, t4, t5, t6⟩ := G.T.tab r hm
    have er : r.name = y := beq_iff_eq.mp hr1
    rw [er, hf] at t1
    cases t1
    rw [X0 _ _ k1] at t2
    cases t2
    rw [k2] at t3
    cases t3
    rw [k3] at t4
    cases t4
    obtain ⟨⟨oc, vc, u1, u2, u3, u4⟩, hP⟩ := t6
    rw [X0 _ _ k4] at u1
    cases u1
    cases u3
    rw [k5] at u4
    cases u4
    exact hP
  obtain ⟨fd, cs, sp, hT, nT, C, hb, hsp, hF⟩ := F w mg fa _ Y X0 G.T.g hmg tb
  exact Gr.law_callG ⟨X0, G.T.g, G.T.b, G.T.builtins, G.T.nolimit, hg, hT, nT, C, G.T.bmain, hobj⟩ hints (Nat.le_trans hlen hn2) hr hF hb (fun H hH hS => hsp H a ns hlen hbits hH hS) fun H e s' => hCX w H s1 e s'
/-- the table of one def -/
theorem tab_of {K : PySem.W.Frag} {mg : Str → Option Value} {h : Heap} {xs : List Str} {x : Str} {f c P : Addr} {o : Obj} {fd : FuncData} (T : TabsAt K mg h xs) (hx : x ∈ xs) (hf : mg x = some (.ref f)) (l : K.lookup f = some o) (hd : o.data = .func fd) (hc : fd.code = .ref c) (hh : PySem.W.codeHdIn K c P = true) :
    h.get? P = some { cls := .none, data := .fields #[] } := by
  unfold PySem.W.codeHdIn at hh
  split at hh
  · rename_i dd vs sl hk
    simp only [Bool.and_eq_true] at hh
    obtain ⟨⟨⟨⟨⟨e1, _⟩, _⟩, _⟩, _⟩, _⟩ := hh
    split at e1
    · rename_i P' h11
      have hP : P' = P := beq_iff_eq.mp e1
      subst hP
      exact T x hx f hf c P' o fd _ _ vs _ l hd hc hk h11
    · cases e1
  · cases hh
/-- what the law promises, by its meaning -/
theorem law_sp {K : PySem.W.Frag} {tabs : List Addr} {fn : List D → Sto → R D} {cs : List (Addr × Addr)} {n : Nat} (hcs : ∀ P ∈ tabs, ∃ p ∈ cs, p.2 = P)
    (law : ∀ (b : Bool) (ns : List Int), ns.length ≤ n → (∀ z ∈ ns, Builtin.Int.intBits z ≤ 1048576) → ∃ S', fn [.ref 0] [.lst b (ns.map D.int)] = .ok (.bl true) S') :
    ∀ (H : Hp) (a : Addr) (ns : List Int), ns.length ≤ n → (∀ z ∈ ns, Builtin.Int.intBits z ≤ 1048576) → (∀ p ∈ cs, H p.2 = some (.tbl #[])) → SqL K H a (ns.map V.int) →
      spD ⟨K, tabs⟩ none 1 fn [.ref a] H (fun v _ => v = .bl true) fun _ _ _ => False := by
  intro H a ns hl hb hT hS
  have rl : ∀ ms : List Int, RepL K [a] H (ms.map D.int) (ms.map V.int) := fun ms => by
    induction ms with
    | nil => exact rfl
    | cons m ms ih => exact ⟨_, _, rfl, rfl, ih⟩
  have sr : ∃ b, SRep K tabs [a] [.lst b (ns.map D.int)] H := by
    have one : ∀ (b : Bool), ORep K [a] H (.lst b (ns.map D.int)) a → SRep K tabs [a] [.lst b (ns.map D.int)] H := fun b ho => by
      refine ⟨rfl, fun i j x oi oj h1 h2 _ _ _ _ => ?_, fun i o x h1 h2 => ?_, fun P hP => ?_⟩
      · have hi := (List.getElem?_eq_some_iff.mp h1).1
        have hj := (List.getElem?_eq_some_iff.mp h2).1
        simp at hi hj
        rw [hi, hj]
      · have hi := (List.getElem?_eq_some_iff.mp h1).1
        simp at hi
        subst hi
        simp at h1 h2
        subst h1 h2
        exact ho
      · obtain ⟨p, hp, e⟩ := hcs P hP
        exact ⟨#[], by rw [← e]; exact hT p hp, by trivial⟩
    rcases hS with (h | ⟨o, h⟩) | h
    · exact ⟨true, one true ⟨_, h, rl ns⟩⟩
    · exact ⟨false, one false ⟨_, .inl ⟨o, h⟩, rl ns⟩⟩
    · exact ⟨false, one false ⟨_, .inr h, rl ns⟩⟩
  obtain ⟨b, sr⟩ := sr
  obtain ⟨S', e⟩ := law b ns hl hb
  refine ⟨_, [a], [.ref 0], rfl, sr, ⟨_, [], rfl, ⟨a, rfl, rfl⟩, rfl⟩, ?_⟩
  rw [e]
  intro v H' ι' _ _ r
  exact r
end Dv

namespace Gx
open PySem PySem.Spec PyProof.Rows L2 GenW Gr
section
variable {X : Cx} {pins : List (Addr × Obj)} {σ : L2.St} {H : Hp} {s : Shared}
end
end Gx

namespace Dv
open PySem PySem.Spec PyProof.Rows L2 Gr
section
variable {X : Cx} {tabs : List Addr}
/-! ### min, max of a pair -/
def min1D : OpN
  | [.tup [.int i, .int j]], S => .ok (.int (if j < i then j else i)) S
  | _, _ => .no
def max1D : OpN
  | [.tup [.int i, .int j]], S => .ok (.int (if i < j then j else i)) S
  | _, _ => .no
/-! ### insert -/
def insertD : OpM
  | .ref i, [.int k, y], S => match S[i]? with
    | some (.lst true xs) => if 0 ≤ k ∧ k < 1000000 ∧ xs.length < mx then .ok .non (S.set i (.lst true (xs.take k.toNat ++ [y] ++ xs.drop k.toNat))) else .no
    | _ => .no
  | _, _, _ => .no
end
/-! ### isinstance(e, (A, B)) -/
section
variable {X : Cx} {EX : EXT} {lv : Lv} {tabs : List Addr} {a : Expr} {da : Den} {p p2 p3 p4 pos : Pos}
def dIsi2 (T U : Ty) (a : Den) : Den := fun lv ρ S => (a lv ρ S).bind fun d S1 => .ok (.bl (isK (kdOf d S1) T || isK (kdOf d S1) U)) S1
end
/-! ### anything that is never reached -/
def sNo : DenS := fun _ _ _ => .no
/-! ### sorted of a generator expression -/
open Classical in
noncomputable def glGo (chk : Sto → Prop) (t : Tg) (cond : Env → Sto → R Bool) (elt : Env → Sto → R D) (ρ : Env) : List D → List D → Sto → R (List D)
  | [], acc, S => if chk S then .ok acc S else .no
  | x :: xs, acc, S => if chk S then (match tgD t x ρ with
    | some ρ1 => (quiet (cond ρ1 S)).bind fun b S1 => if b = true then (quiet (elt ρ1 S1)).bind fun y S2 => if acc.length < mx then glGo chk t cond elt ρ xs (acc ++ [y]) S2 else .no
      else glGo chk t cond elt ρ xs acc S1
    | none => .no) else .no
def srtK : List D → Sto → R D := fun ys S => if ys.all isPr = true ∧ ys.length ≤ mx then .ok (.ref S.length) (S ++ [.lst true (isort ltK ys)]) else .no
noncomputable def dSg (di : DenI) (t : Tg) (cond : DenT) (elt : Den) (vs : List Nat) : Den := fun lv ρ S => (di lv ρ S).bind fun src S1 => (glGo src.chk t (cond lv.dn) (elt lv.dn) (wipeE ρ vs) src.items [] S1).bind srtK
section
variable {X : Cx} {w : Wn} {EX : EXT} {lv : Lv} {σ : L2.St} {H : Hp} {ρ : Env} {S : Sto} {ι : List Addr} {elt tg iter : Expr} {ifs : List Expr} {scope : Scope} {own : List (Str × Nat)} {p pos : Pos} {di : DenI} {t : Tg} {tc : DenT} {de : Den}
def glQ (w : Wn) (k : List D → Sto → R D) (Q : VK) : List V → Hp → Prop := fun vs H => ∃ S ι ds, SRep w.K w.tabs ι S H ∧ RepL w.K ι H ds vs ∧ (k ds S).wp (PV w ι H Q) noX
theorem gl_read {P : Addr} {k : List D → Sto → R D} {Q : VK} (hk : ∀ ds S c S', k ds S ≠ .ex c S') (hP : P ∈ w.tabs) (hv : ∀ i ∈ t.slots, i ∈ own.map (·.2))
    (h : semE w EX lv (fun lv ρ S => (di lv ρ S).bind fun src S1 => (glGo src.chk t (tc lv.dn) (de lv.dn) (wipeE ρ (own.map (·.2))) src.items [] S1).bind k) σ H Q) :
    semI w EX lv di σ H fun J H1 => Gx.TabG H1 P ∧ ∀ H2, Gx.Tabbed P H1 H2 → Gx.TurnL J (semG w t) (semT w noE lv.dn tc) (semE w noE lv.dn de) (own.map (·.2)) σ (glQ w k Q) H2 := by
  obtain ⟨ρ, S, ι, he, hs, hw⟩ := h
  refine ⟨ρ, S, ι, he, hs, ?_⟩
  dsimp only at hw
  cases e : di lv ρ S with
  | no => rw [e] at hw; exact hw.elim
  | ex c S1 => rw [e] at hw; exact hw
  | ok src S1 =>
    rw [e] at hw
    intro H1 ι1 J l1 s1 hck hJ
    have hw : ((glGo src.chk t (tc lv.dn) (de lv.dn) (wipeE ρ (own.map (·.2))) src.items [] S1).bind k).wp (PV w ι H Q) (PX w EX ι H σ) := hw
    have hTP := s1.tab P hP
    refine ⟨hTP, fun H2 hTb => ?_⟩
    have l2 := tabbed_le (ι := ι1) hTb hTP
    have s2 := tabbed_rep s1 hTb hTP
    refine ⟨fun i m ys H' => m = src.items.length - i ∧ i ≤ src.items.length ∧ ∃ S' ι' acc, ERep w.K ι' H' ρ σ ∧ SRep w.K w.tabs ι' S' H' ∧ Le ι1 H2 ι' H' ∧ RepL w.K ι' H' acc ys ∧
      ((glGo src.chk t (tc lv.dn) (de lv.dn) (wipeE ρ (own.map (·.2))) (src.items.drop i) acc S').bind k).wp (PV w ι' H' Q) (PX w EX ι' H' σ),
      ⟨_, rfl, Nat.zero_le _, S1, ι1, [], he.mono (l1.trans l2), s2, Le.refl _ _, rfl, R.wp_mono hw (fun f S2 q => q.mono (l1.trans l2)) fun _ _ q => q.mono (l1.trans l2)⟩, ?_⟩
    rintro i m ys H' ⟨rfl, hi, S', ι', acc, e', s', l', ra, w'⟩
    have lall := l2.trans l'
    by_cases hlt : i < src.items.length
    · rw [List.drop_eq_getElem_cons hlt] at w'
      unfold glGo at w'
      split at w'
      · rename_i hck'
        split at w'
        · rename_i ρ1 et
          obtain ⟨g1, g2⟩ := it_go hJ lall s' hck' (List.getElem?_eq_getElem hlt)
          refine .inr ⟨g1, fun ys2 H2 => ∃ S2 ι2 acc2, ERep w.K ι2 H2 ρ σ ∧ SRep w.K w.tabs ι2 S2 H2 ∧ Le ι' H' ι2 H2 ∧ RepL w.K ι2 H2 acc2 ys2 ∧ ((glGo src.chk t (tc lv.dn) (de lv.dn) (wipeE ρ (own.map (·.2))) (src.items.drop (i + 1)) acc2 S2).bind k).wp (PV w ι2 H2 Q) (PX w EX ι2 H2 σ), fun ys2 H2 h2 => ?_, fun x H2 y => ?_⟩
          · obtain ⟨S2, ι2, acc2, q1, q2, q3, q4, q5⟩ := h2
            exact ⟨_, by omega, rfl, hlt, S2, ι2, acc2, q1, q2, l'.trans q3, q4, q5⟩
          · obtain ⟨lX, sX, rx⟩ := g2 x H2 y
            have e' := e'.mono lX
            have s' := sX
            have w' := R.wp_mono w' (fun _ _ q => q.mono lX) fun _ _ q => q.mono lX
            have ra := RepL.mono lX _ _ ra
            refine ⟨_, ι', _, ρ1, e'.wiped _, rx, et, fun σ2 e2 k2 => ⟨by rw [k2 _ hv, wipe_twice], ?_⟩⟩
            have w2 := R.wp_bind.mp w'
            refine ⟨ρ1, S', ι', e2, s', R.wp_mono (quiet_bind (W' := PX w noE ι' H2 σ2) w2) (fun b S2 hb => ?_) fun _ _ q => q⟩
            intro H3 ι3 l3 s3
            cases b with
            | false => exact ⟨S2, ι3, acc, e'.mono l3, s3, lX.trans l3, RepL.mono l3 _ _ ra, R.wp_mono (R.wp_bind.mpr hb) (fun _ _ q => q.mono l3) fun _ _ q => q.mono l3⟩
            | true =>
              refine ⟨ρ1, S2, ι3, e2.mono l3, s3, R.wp_mono (quiet_bind (W' := PX w noE ι3 H3 σ2) hb) (fun yd S4 hy => ?_) fun _ _ q => q⟩
              intro vy H4 ι4 l4 s4 ry
              have l34 := l3.trans l4
              have hy := hy
              split at hy
              · rename_i hz
                have ra4 := RepL.mono l34 _ _ ra
                exact ⟨by rw [← ra4.len]; exact mx_lt hz, S4, ι4, acc ++ [yd], e'.mono l34, s4, lX.trans l34, ra4.app (RepL.one ry), R.wp_mono (R.wp_bind.mpr hy) (fun _ _ q => q.mono l34) fun _ _ q => q.mono l34⟩
              · exact hy.elim
        · exact w'.elim
      · exact w'.elim
    · have ei : i = src.items.length := by omega
      subst ei
      rw [List.drop_length] at w'
      unfold glGo at w'
      split at w'
      · rename_i hck'
        refine .inl ⟨it_stop hJ lall s' hck', S', ι', acc, s', ra, ?_⟩
        have w' : (k acc S').wp (PV w ι' H' Q) (PX w EX ι' H' σ) := w'
        cases ek : k acc S' with
        | ok d S5 => rw [ek] at w'; exact w'
        | ex c S5 => exact (hk _ _ _ _ ek).elim
        | no => rw [ek] at w'; exact w'.elim
      · exact w'.elim
end
/-! ### in short -/
section
variable {X : Cx} {tabs : List Addr} {EX : EXT} {lv : Lv} {a e : Expr} {es : List Expr} {da : Den} {ra : DenA} {p p2 p3 p4 pos : Pos}
end
end Dv

namespace Dv
open PySem PySem.Spec PyProof.Rows L2

/-! ### repr -/
mutual
/-- as data that can be shown: the dict without keys too -/
def toR (S : Sto) : Nat → D → Option PyData
  | 0, _ => none
  | _ + 1, .non => some .none
  | _ + 1, .bl b => some (.bool b)
  | _ + 1, .int i => some (.int i)
  | _ + 1, .str x => some (.str x)
  | n + 1, .tup ds => (toRs S n ds).map .tuple
  | n + 1, .ref i => match S[i]? with
    | some (.lst _ ds) => (toRs S n ds).map .list
    | some (.dk []) => some (.dict [])
    | _ => none
def toRs (S : Sto) : Nat → List D → Option (List PyData)
  | _, [] => some []
  | 0, _ :: _ => none
  | n + 1, d :: ds => match toR S n d, toRs S n ds with
    | some p, some ps => some (p :: ps)
    | _, _ => none
end
mutual
def noL : PyData → Bool
  | .list _ => false
  | .tuple xs => noLs xs
  | _ => true
def noLs : List PyData → Bool
  | [] => true
  | x :: xs => noL x && noLs xs
end
/-- it can be shown, and the text is not too long -/
def fitP (p : PyData) : Bool := p.showable && (!p.hasDict || noL p) && p.leavesShort 64 && decide (p.weight ≤ 100000) && decide (p.depth ≤ 60)
def reprD : OpN
  | [d], S => match toR S 1000 d with
    | some p => if fitP p = true then .ok (.str p.shown) S else .no
    | none => .no
  | _, _ => .no
section
variable {X : Cx} {tabs : List Addr} {pins : List (Addr × Obj)} {σ : L2.St} {H : Hp} {s : Shared} {ι : List Addr} {S : Sto}
mutual
theorem toR_reads (I : Inv X pins σ H s) (hs : SRep X.K tabs ι S H) : ∀ (n : Nat) (d : D) (p : PyData) (v : V) (u : Value), toR S n d = some p → Rep X.K ι H d v → RelV v u → ∃ as, Reads s.heap u p as ∧ (noL p = true → sysModules ∉ as)
  | 0, _, _, _, _, e, _, _ => by cases e
  | _ + 1, .non, _, _, _, e, r, q => by
    cases e; cases r; cases q
    exact ⟨_, .none, fun _ => by simp⟩
  | _ + 1, .bl b, _, _, _, e, r, q => by
    cases e; cases r; cases q
    exact ⟨_, .bool b, fun _ => by simp⟩
  | _ + 1, .int i, _, _, _, e, r, q => by
    cases e; cases r
    obtain ⟨t, rfl⟩ := q
    exact ⟨_, .int i t, fun _ => by simp⟩
  | _ + 1, .str x, _, _, _, e, r, q => by
    cases e; cases r
    obtain ⟨t, rfl⟩ := q
    exact ⟨_, .str x t, fun _ => by simp⟩
  | n + 1, .tup ds, p, v, u, e, r, q => by
    obtain ⟨a, vs, rfl, r1, r2⟩ := r
    unfold toR at e
    obtain ⟨ps, e1, rfl⟩ := Option.map_eq_some_iff.mp e
    cases q
    obtain ⟨its, rv, ⟨o, ho, hc, m, hd⟩, _⟩ := I.tuple r1.t
    obtain ⟨as, z1, z2⟩ := toRs_reads I hs n ds ps vs its e1 r2 rv
    exact ⟨as, .tuple ho hc hd (by simpa using z1), fun k => z2 (by simpa [noL] using k)⟩
  | n + 1, .ref i, p, v, u, e, r, q => by
    obtain ⟨a, rfl, r1⟩ := r
    cases q
    unfold toR at e
    split at e
    · rename_i b ds e0
      obtain ⟨ps, e1, rfl⟩ := Option.map_eq_some_iff.mp e
      obtain ⟨a', vs, ha, hq, r2⟩ := hs.list e0
      rw [r1] at ha
      cases ha
      obtain ⟨its, rv, ⟨o, m, ho, hc, _, hd⟩, _⟩ := I.list hq
      obtain ⟨as, z1, z2⟩ := toRs_reads I hs n ds ps vs its e1 r2 rv
      exact ⟨a :: as, .list ho hc hd (by simpa using z1), fun k => by simp [noL] at k⟩
    · rename_i e0
      cases e
      obtain ⟨ws, k1, k2, k3⟩ := hs.obj i _ a e0 r1
      have ew : ws = [] := by
        cases ws with
        | nil => rfl
        | cons _ _ => simp at k2
      subst ew
      obtain ⟨_, hS, vs, kv, o, es, ep, g1, g2, g3, _, g4, _⟩ := I.hok a _ k1
      cases kv
      have ee : es = #[] := by
        cases q : es.toList with
        | nil => simpa using q
        | cons e0 r0 => rw [q] at g4; cases g4
      subst ee
      refine ⟨_, .dict (kvs := []) g1 g2.1 g3 .nil .nil, fun _ => ?_⟩
      have : a ≠ sysModules := by simpa using hS
      simpa using this.symm
    · cases e
theorem toRs_reads (I : Inv X pins σ H s) (hs : SRep X.K tabs ι S H) : ∀ (n : Nat) (ds : List D) (ps : List PyData) (vs : List V) (us : List Value), toRs S n ds = some ps → RepL X.K ι H ds vs → Vals vs us → ∃ as, ReadsAll s.heap us ps as ∧ (noLs ps = true → sysModules ∉ as)
  | n, [], ps, vs, us, e, r, q => by
    have r : vs = [] := r
    subst r
    cases q
    have e2 : ps = [] := by cases n <;> (cases e; rfl)
    subst e2
    exact ⟨_, .nil, fun _ => by simp⟩
  | 0, _ :: _, _, _, _, e, _, _ => by cases e
  | n + 1, d :: ds, ps, vs, us, e, r, q => by
    obtain ⟨v, rr, rfl, q1, q2⟩ := r
    unfold toRs at e
    split at e
    · rename_i p qs e1 e2
      cases e
      cases q with
      | cons w1 w2 =>
        obtain ⟨as, z1, z2⟩ := toR_reads I hs n d p v _ e1 q1 w1
        obtain ⟨bs, y1, y2⟩ := toRs_reads I hs n ds qs rr _ e2 q2 w2
        refine ⟨_, .cons z1 y1, fun k => ?_⟩
        simp only [noLs, Bool.and_eq_true] at k
        rw [List.mem_append]
        rintro (c | c)
        · exact z2 k.1 c
        · exact y2 k.2 c
    · cases e
end
end
theorem fit_parts {p : PyData} (h : fitP p = true) : p.showable = true ∧ (p.hasDict = true → noL p = true) ∧ p.shown.length ≤ sizeLine ∧ p.depth ≤ 60 := by
  unfold fitP at h
  simp only [Bool.and_eq_true, Bool.or_eq_true, Bool.not_eq_true', decide_eq_true_eq] at h
  obtain ⟨⟨⟨⟨h1, h2⟩, h3⟩, h4⟩, h5⟩ := h
  refine ⟨h1, fun e => ?_, ?_, h5⟩
  · rcases h2 with h2 | h2
    · rw [h2] at e; cases e
    · exact h2
  · have := PyData.shown_le 64 (by decide) p h3
    have hs := sizeLine_eq
    omega
section
variable {X : Cx} {tabs : List Addr}
theorem crd_repr (hu : X.A.units + 64 < cLine) (hg : X.A.guards = some []) : CallR X (.builtin "repr") (rCl ⟨X.K, tabs⟩ reprD) := by
  rintro pins s σ H xs us Q I rx ⟨S, ι, ds, hs, r, hw⟩
  unfold reprD at hw
  split at hw
  · rename_i d
    obtain ⟨v, rfl, q⟩ := repl1 r
    obtain ⟨u, rfl, ru⟩ := vals1 rx
    split at hw
    · rename_i p ep
      split at hw
      · rename_i hf
        obtain ⟨f1, f2, f3, f4⟩ := fit_parts hf
        obtain ⟨as, rd, ns⟩ := toR_reads I hs _ d p v u ep q ru
        have fin : ∀ (h' : Heap) (tk : Tok) (tk' : Nat), (∀ b o, s.heap.get? b = some o → h'.get? b = some o) → EP X pins σ Q (.str p.shown tk) { s with heap := h', toks := tk' } :=
          fun h' tk tk' hk => ⟨.str p.shown, H, I.kept hk, ⟨tk, rfl⟩, PV.now hw hs rfl⟩
        cases rd with
        | none =>
          have z : PyData.none.shown = ("None" : Str) := PyData.shown_none
          rw [z] at fin
          exact P.repr_of_none (fin s.heap _ _ fun _ _ e => e)
        | bool b =>
          have z := PyData.shown_bool b
          rw [z] at fin
          exact P.repr_of_bool (fin s.heap _ _ fun _ _ e => e)
        | int i t =>
          have z := PyData.shown_int i
          rw [z] at fin
          exact P.repr_of_int (by simpa [PyData.showable] using f1) (fin s.heap _ _ fun _ _ e => e)
        | str x t =>
          have z := PyData.shown_str x
          rw [z] at fin f3
          exact P.repr_of_str (fin s.heap _ _ fun _ _ e => e) f3
        | list h1 h2 h3 h4 => exact repr_of_reads' (.list h1 h2 h3 h4) f1 (fun e => ns (f2 e)) hg (by omega) (fun _ _ e => e) fin f3
        | tuple h1 h2 h3 h4 => exact repr_of_reads' (.tuple h1 h2 h3 h4) f1 (fun e => ns (f2 e)) hg (by omega) (fun _ _ e => e) fin f3
        | dict h1 h2 h3 h4 h5 => exact repr_of_reads' (.dict h1 h2 h3 h4 h5) f1 (fun e => ns (f2 e)) hg (by omega) (fun _ _ e => e) fin f3
      · exact hw.elim
    · exact hw.elim
  · exact hw.elim
end
end Dv

namespace Dv
open PySem PySem.Spec PyProof.Rows L2 Gr

/-! ### dicts with ints and texts as keys; in -/
def kyD : D → Option Key
  | .int i => some (.inl i)
  | .str x => some (.inr x)
  | _ => none
def valK (kvs : List (Key × D)) (k : Key) : Option D := (kvs.find? fun q => decide (q.1 = k)).map (·.2)
def setK (kvs : List (Key × D)) (k : Key) (v : D) : List (Key × D) :=
  if (kvs.any fun q => decide (q.1 = k)) = true then kvs.map (fun q => if q.1 = k then (q.1, v) else q) else kvs ++ [(k, v)]
def dkD (d : D) (S : Sto) : Option (List (Key × D)) := match d with
  | .ref i => match S[i]? with
    | some (.dk kvs) => some kvs
    | _ => none
  | _ => none
def getKD : Op2 := fun d k S => match dkD d S, kyD k with
  | some kvs, some q => match valK kvs q with
    | some v => .ok v S
    | none => .no
  | _, _ => .no
/-- d[k] of anything -/
def ixA : Op2 := fun d k S => if (dkD d S).isSome = true then getKD d k S else ixD d k S
/-- x in y -/
def inB (x y : D) (S : Sto) : Option Bool := match dkD y S with
  | some kvs => (kyD x).map fun k => (valK kvs k).isSome
  | none => match toP S 1000 x, toP S 1000 y with
    | some d, some (.list ds) => if SeqAt.shaped d = true ∧ SeqAt.shaped (.list ds) = true then some (ds.any fun z => PyData.eqv z d) else none
    | some d, some (.tuple ds) => if SeqAt.shaped d = true ∧ SeqAt.shaped (.tuple ds) = true then some (ds.any fun z => PyData.eqv z d) else none
    | _, _ => none
def inD : Op2 := fun x y S => match inB x y S with
  | some b => .ok (.bl b) S
  | none => .no
def ninD : Op2 := fun x y S => match inB x y S with
  | some b => .ok (.bl (!b)) S
  | none => .no
def intD : OpN
  | [.int i], S => .ok (.int i) S
  | [.bl b], S => .ok (.int (if b then 1 else 0)) S
  | _, _ => .no
section
variable {K : PySem.W.Frag} {ι : List Addr} {H : Hp}
theorem key_v {d : D} {k : Key} {v : V} (e : kyD d = some k) (r : Rep K ι H d v) : v = kV k := by
  cases d <;> first | (cases e; done) | skip
  · cases e; cases r; rfl
  · cases e; cases r; rfl
theorem val_rep {k : Key} : ∀ {kvs : List (Key × D)} {ws : List (Key × V)}, kvs.map (·.1) = ws.map (·.1) → RepL K ι H (kvs.map (·.2)) (ws.map (·.2)) →
    (∀ d, valK kvs k = some d → ∃ v, valV ws k = some v ∧ Rep K ι H d v) ∧ (valK kvs k = none → valV ws k = none)
  | [], [], _, _ => ⟨(fun _ e => by cases e), fun _ => rfl⟩
  | [], _ :: _, e, _ => by simp at e
  | _ :: _, [], e, _ => by simp at e
  | (k1, d1) :: kvs, (k2, v2) :: ws, e, r => by
    simp only [List.map_cons, List.cons.injEq] at e
    obtain ⟨rfl, e⟩ := e
    obtain ⟨v, rr, ev, r1, r2⟩ := r
    cases ev
    obtain ⟨h1, h2⟩ := val_rep (k := k) e r2
    by_cases c : k1 = k
    · simp [valK, valV, c, r1]
    · have z1 : valK ((k1, d1) :: kvs) k = valK kvs k := by simp [valK, c]
      have z2 : valV ((k1, v2) :: ws) k = valV ws k := by simp [valV, c]
      rw [z1, z2]
      exact ⟨h1, h2⟩
theorem any_key {k : Key} : ∀ {kvs : List (Key × D)} {ws : List (Key × V)}, kvs.map (·.1) = ws.map (·.1) → (kvs.any fun q => decide (q.1 = k)) = (ws.any fun q => decide (q.1 = k))
  | [], [], _ => rfl
  | [], _ :: _, e => by simp at e
  | _ :: _, [], e => by simp at e
  | _ :: kvs, _ :: ws, e => by
    simp only [List.map_cons, List.cons.injEq] at e
    rw [List.any_cons, List.any_cons, any_key e.2, e.1]
theorem map_key {k : Key} {d : D} {v : V} (q : Rep K ι H d v) : ∀ {kvs : List (Key × D)} {ws : List (Key × V)}, kvs.map (·.1) = ws.map (·.1) → RepL K ι H (kvs.map (·.2)) (ws.map (·.2)) →
    (kvs.map (fun q => if q.1 = k then (q.1, d) else q)).map (·.1) = (ws.map (fun q => if q.1 = k then (q.1, v) else q)).map (·.1) ∧ RepL K ι H ((kvs.map (fun q => if q.1 = k then (q.1, d) else q)).map (·.2)) ((ws.map (fun q => if q.1 = k then (q.1, v) else q)).map (·.2))
  | [], [], _, _ => ⟨rfl, rfl⟩
  | [], _ :: _, e, _ => by simp at e
  | _ :: _, [], e, _ => by simp at e
  | (k1, d1) :: kvs, (k2, v2) :: ws, e, r => by
    simp only [List.map_cons, List.cons.injEq] at e
    obtain ⟨rfl, e⟩ := e
    obtain ⟨u, rr, ev, r1, r2⟩ := r
    cases ev
    obtain ⟨h1, h2⟩ := map_key (k := k) q e r2
    by_cases c : k1 = k
    · subst c
      refine ⟨by simpa using h1, v, _, ?_, ?_, h2⟩
      · simp
      · simpa using q
    · refine ⟨by simpa [c] using h1, v2, _, ?_, ?_, h2⟩
      · simp [c]
      · simpa [c] using r1
theorem put_rep {k : Key} {d : D} {v : V} {kvs : List (Key × D)} {ws : List (Key × V)} (q : Rep K ι H d v) (e : kvs.map (·.1) = ws.map (·.1)) (r : RepL K ι H (kvs.map (·.2)) (ws.map (·.2))) :
    (setK kvs k d).map (·.1) = (putK ws k v).map (·.1) ∧ RepL K ι H ((setK kvs k d).map (·.2)) ((putK ws k v).map (·.2)) := by
  unfold setK putK
  rw [any_key e]
  split
  · exact map_key q e r
  · rw [List.map_append, List.map_append, List.map_append, List.map_append, e]
    exact ⟨rfl, r.app (RepL.one q)⟩
theorem dk_at {tabs : List Addr} {S : Sto} {d : D} {kvs : List (Key × D)} {v : V} (hs : SRep K tabs ι S H) (e : dkD d S = some kvs) (r : Rep K ι H d v) :
    ∃ i a ws, d = .ref i ∧ v = .ref a ∧ ι[i]? = some a ∧ S[i]? = some (.dk kvs) ∧ H a = some (.dK ws) ∧ kvs.map (·.1) = ws.map (·.1) ∧ RepL K ι H (kvs.map (·.2)) (ws.map (·.2)) := by
  unfold dkD at e
  split at e
  · rename_i i
    split at e
    · rename_i k0 e0
      cases e
      obtain ⟨a, rfl, q⟩ := r
      obtain ⟨ws, z1, z2, z3⟩ := hs.obj i _ a e0 q
      exact ⟨i, a, ws, rfl, rfl, q, e0, z1, z2, z3⟩
    · cases e
  · cases e
end
/-- either way -/
theorem PE.or {X : Cx} {e : Expr} {t1 t2 : TE} (h1 : PE X e t1) (h2 : PE X e t2) : PE X e (fun σ H Q => t1 σ H Q ∨ t2 σ H Q) := ⟨fun pins s σ H Q I q => q.elim (h1.run pins s σ H Q I) (h2.run pins s σ H Q I)⟩
theorem op_two {o o1 o2 : Op2} (h : ∀ x y S, o x y S = o1 x y S ∨ o x y S = o2 x y S) {a b : Den} {lv : Lv} {ρ : Env} {S : Sto} {Q : D → Sto → Prop} {W : Nat → Sto → Prop} (z : (dOp o a b lv ρ S).wp Q W) : (dOp o1 a b lv ρ S).wp Q W ∨ (dOp o2 a b lv ρ S).wp Q W := by
  unfold dOp at z ⊢
  cases e1 : a lv ρ S with
  | ok x S1 =>
    rw [e1] at z
    simp only [R.bind_ok] at z ⊢
    cases e2 : b lv ρ S1 with
    | ok y S2 =>
      rw [e2] at z
      simp only [R.bind_ok] at z ⊢
      rcases h x y S2 with q | q <;> rw [q] at z
      · exact .inl z
      · exact .inr z
    | ex c S2 => rw [e2] at z; exact .inl z
    | no => rw [e2] at z; exact z.elim
  | ex c S1 => rw [e1] at z; exact .inl z
  | no => rw [e1] at z; exact z.elim
section
variable {X : Cx} {EX : EXT} {lv : Lv} {tabs : List Addr} {a b : Expr} {da db : Den} {pos : Pos}
theorem pd_getK (hu : X.A.units + 64 < cLine) (ha : PE X a (semE ⟨X.K, tabs⟩ EX lv da)) (hb : PE X b (semE ⟨X.K, tabs⟩ EX lv db)) (hs : PlainIx b) : PE X (.Subscript a b pos) (semE ⟨X.K, tabs⟩ EX lv (dOp getKD da db)) := by
  refine PE.imp (pe_dget (by omega) ha hb hs) fun σ H Q h => ?_
  obtain ⟨ρ, S, ι, he, hs, hw⟩ := h
  refine stepE (Po := fun ι H => PV ⟨X.K, tabs⟩ ι H Q) he hs (fun l q => q.mono l) hw fun x S1 v H1 ι1 l1 s1 r1 e1 h1 => ?_
  refine stepE (Po := fun ι H => PV ⟨X.K, tabs⟩ ι H Q) e1 s1 (fun l q => q.mono l) h1 fun y S2 u H2 ι2 l2 s2 r2 e2 h2 => ?_
  have h3 := quiet_wp (W' := fun _ _ => False) h2
  unfold getKD at h3
  split at h3
  · rename_i kvs k z1 z2
    split at h3
    · rename_i d z3
      obtain ⟨i, p, ws, rfl, rfl, q1, q2, q3, q4, q5⟩ := dk_at s2 z1 (Rep.mono l2 x v r1)
      obtain ⟨v2, w1, w2⟩ := (val_rep q4 q5).1 d z3
      refine ⟨p, v2, rfl, .inl ⟨ws, k, .inl q3, key_v z2 r2, w1.symm⟩, PV.now h3 s2 w2⟩
    · exact h3.elim
  · exact h3.elim
theorem xixA (hu : X.A.units + 64 < cLine) (ha : PE X a (semE ⟨X.K, tabs⟩ EX lv da)) (hb : PE X b (semE ⟨X.K, tabs⟩ EX lv db)) (hs : PlainIx b := by intro _ _; rfl) : PE X (.Subscript a b pos) (semE ⟨X.K, tabs⟩ EX lv (dOp ixA da db)) := by
  refine PE.imp (PE.or (pd_getK hu ha hb hs) (pd_ix ixd ha hb hs)) fun σ H Q h => ?_
  obtain ⟨ρ, S, ι, he, hs, hw⟩ := h
  have z := op_two (o := ixA) (o1 := getKD) (o2 := ixD) (fun x y S => by unfold ixA; split <;> simp) hw
  exact z.imp (fun z => ⟨ρ, S, ι, he, hs, z⟩) fun z => ⟨ρ, S, ι, he, hs, z⟩
theorem inB_or {ι : List Addr} {H : Hp} {S : Sto} {x y : D} {bo : Bool} {v u : V} (hs : SRep X.K tabs ι S H) (e : inB x y S = some bo) (r1 : Rep X.K ι H x v) (r2 : Rep X.K ι H y u) :
    (∃ p o, u = .ref p ∧ DGet H p v o ∧ o.isSome = bo) ∨ ∃ d ds, Dp X.K H v d ∧ SeqAt.shaped d = true ∧ (ds.any fun z => PyData.eqv z d) = bo ∧ ((Dp X.K H u (.list ds) ∧ SeqAt.shaped (.list ds) = true) ∨ (Dp X.K H u (.tuple ds) ∧ SeqAt.shaped (.tuple ds) = true)) := by
  unfold inB at e
  split at e
  · rename_i kvs z1
    obtain ⟨k, z2, z3⟩ := Option.map_eq_some_iff.mp e
    obtain ⟨i, p, ws, rfl, rfl, q1, q2, q3, q4, q5⟩ := dk_at hs z1 r2
    obtain ⟨w1, w2⟩ := val_rep (k := k) q4 q5
    refine .inl ⟨p, _, rfl, .inl ⟨ws, k, .inl q3, key_v z2 r1, rfl⟩, ?_⟩
    rw [← z3]
    cases c : valK kvs k with
    | none => rw [w2 c]; rfl
    | some d =>
      obtain ⟨v2, g1, _⟩ := w1 d c
      rw [g1]; rfl
  · split at e
    · rename_i d ds z1 z2
      split at e
      · rename_i hc
        cases e
        exact .inr ⟨d, ds, toP_dp hs _ _ _ _ z1 r1, hc.1, rfl, .inl ⟨toP_dp hs _ _ _ _ z2 r2, hc.2⟩⟩
      · cases e
    · rename_i d ds z1 z2
      split at e
      · rename_i hc
        cases e
        exact .inr ⟨d, ds, toP_dp hs _ _ _ _ z1 r1, hc.1, rfl, .inr ⟨toP_dp hs _ _ _ _ z2 r2, hc.2⟩⟩
      · cases e
    · cases e
theorem opd_in (hu : X.A.units + 66 < cLine) : OpR X (compareOp .In) (rOp ⟨X.K, tabs⟩ inD) := by
  rintro pins s σ H x y v u Q I rx ry ⟨S, ι, d1, d2, hs, r1, r2, hw⟩
  unfold inD at hw
  split at hw
  · rename_i bo e
    rcases inB_or hs e r1 r2 with ⟨p, o, rfl, g, eb⟩ | ⟨d, ds, z1, z2, z3, ⟨z4, z5⟩ | ⟨z4, z5⟩⟩
    · cases ry
      subst eb
      exact d_in (by omega) I g rx fun s3 I3 => ⟨.bl o.isSome, H, I3, rfl, PV.now hw hs rfl⟩
    · subst z3
      exact op_inD (by omega) pins s σ H x y v u Q I rx ry ⟨d, ds, z1, z4, z2, z5, PV.now hw hs rfl⟩
    · subst z3
      obtain ⟨as, q1⟩ := Dp.reads I d x v z1 rx
      obtain ⟨bs, q2⟩ := Dp.reads I (.tuple ds) y u z4 ry
      exact SeqAt.in_tuple_reads q2 q1 (SeqAt.canLay_of_shaped z5) (SeqAt.canLay_of_shaped z2) (room_in_shaped z2 (by omega)) ⟨.bl _, H, I, rfl, PV.now hw hs rfl⟩
  · exact hw.elim
theorem opd_nin (hu : X.A.units + 66 < cLine) : OpR X (compareOp .NotIn) (rOp ⟨X.K, tabs⟩ ninD) := by
  rintro pins s σ H x y v u Q I rx ry ⟨S, ι, d1, d2, hs, r1, r2, hw⟩
  unfold ninD at hw
  split at hw
  · rename_i bo e
    rcases inB_or hs e r1 r2 with ⟨p, o, rfl, g, eb⟩ | ⟨d, ds, z1, z2, z3, ⟨z4, z5⟩ | ⟨z4, z5⟩⟩
    · cases ry
      subst eb
      exact d_notIn (by omega) I g rx fun s3 I3 => ⟨.bl (!o.isSome), H, I3, rfl, PV.now hw hs rfl⟩
    · subst z3
      exact op_notInD (by omega) pins s σ H x y v u Q I rx ry ⟨d, ds, z1, z4, z2, z5, PV.now hw hs rfl⟩
    · subst z3
      obtain ⟨as, q1⟩ := Dp.reads I d x v z1 rx
      obtain ⟨bs, q2⟩ := Dp.reads I (.tuple ds) y u z4 ry
      exact SeqAt.notIn_tuple_reads q2 q1 (SeqAt.canLay_of_shaped z5) (SeqAt.canLay_of_shaped z2) (room_in_shaped z2 (by omega)) ⟨.bl _, H, I, rfl, PV.now hw hs rfl⟩
  · exact hw.elim
theorem crd_int : CallR X (.type "int") (rCl ⟨X.K, tabs⟩ intD) := by
  rintro pins s σ H xs us Q I rx ⟨S, ι, ds, hs, r, hw⟩
  unfold intD at hw
  split at hw
  · rename_i i
    obtain ⟨v, rfl, q⟩ := repl1 r
    cases q
    exact call_int1 pins s σ H _ us Q I rx (.inl ⟨i, rfl, PV.now hw hs rfl⟩)
  · rename_i b
    obtain ⟨v, rfl, q⟩ := repl1 r
    cases q
    exact call_int1 pins s σ H _ us Q I rx (.inr ⟨b, rfl, PV.now hw hs rfl⟩)
  · exact hw.elim
end
/-! ### d[k] = v -/
def putKD (o i v : D) (S : Sto) : R Unit := match o, kyD i with
  | .ref r, some k => match S[r]? with
    | some (.dk kvs) => if kvs.length ≤ mx then .ok () (S.set r (.dk (setK kvs k v))) else .no
    | _ => .no
  | _, _ => .no
def setA (o i v : D) (S : Sto) : R Unit := if (dkD o S).isSome = true then putKD o i v S else setD o i v S
def sSubW (f : D → D → D → Sto → R Unit) (o i e : Den) : DenS := fun lv ρ S => (e lv ρ S).bindS ρ fun v S1 => (o lv ρ S1).bindS ρ fun x S2 => (i lv ρ S2).bindS ρ fun y S3 => (f x y v S3).bindS ρ fun _ S4 => .ok (.nx ρ) S4
theorem PS.or {X : Cx} {e : Stmt} {t1 t2 : TS} (h1 : PS X e t1) (h2 : PS X e t2) : PS X e (fun D σ H => t1 D σ H ∨ t2 D σ H) := ⟨fun pins s σ H D I q => q.elim (h1.run pins s σ H D I) (h2.run pins s σ H D I)⟩
theorem sub_two {f f1 f2 : D → D → D → Sto → R Unit} (h : ∀ x y v S, f x y v S = f1 x y v S ∨ f x y v S = f2 x y v S) {o i e : Den} {lv : Lv} {ρ : Env} {S : Sto} {Q : Fl → Sto → Prop} {W : Nat → Sto → Prop} (z : (sSubW f o i e lv ρ S).wp Q W) :
    (sSubW f1 o i e lv ρ S).wp Q W ∨ (sSubW f2 o i e lv ρ S).wp Q W := by
  unfold sSubW at z ⊢
  cases e1 : e lv ρ S with
  | ok v S1 =>
    rw [e1] at z
    simp only [R.bindS_ok] at z ⊢
    cases e2 : o lv ρ S1 with
    | ok x S2 =>
      rw [e2] at z
      simp only [R.bindS_ok] at z ⊢
      cases e3 : i lv ρ S2 with
      | ok y S3 =>
        rw [e3] at z
        simp only [R.bindS_ok] at z ⊢
        rcases h x y v S3 with q | q <;> rw [q] at z
        · exact .inl z
        · exact .inr z
      | ex c S3 => rw [e3] at z; exact .inl z
      | no => rw [e3] at z; exact .inl z
    | ex c S2 => rw [e2] at z; exact .inl z
    | no => rw [e2] at z; exact .inl z
  | ex c S1 => rw [e1] at z; exact .inl z
  | no => rw [e1] at z; exact .inl z
section
variable {X : Cx} {EX : EXT} {lv : Lv} {tabs : List Addr} {e o i : Expr} {de dox di : Den} {pos p2 : Pos}
theorem sd_putK (hu : X.A.units + 64 < cLine) (ho : PE X o (semE ⟨X.K, tabs⟩ EX lv dox)) (hi : PE X i (semE ⟨X.K, tabs⟩ EX lv di)) (ha : PE X e (semE ⟨X.K, tabs⟩ EX lv de))
    (hasg : ∀ v, assign (.Subscript o i p2) X.env v = (do
      let ov ← holding [v] (eval o X.env)
      let iv ← holding [v, ov] (eval i X.env)
      standAt p2
      holding [v, ov, iv] (setItem ov iv v)
      release [v, ov, iv] [])) (hs : swapsWithSole [.Subscript o i p2] e pos.line X.env = pure false) (hw : swappedStores [.Subscript o i p2] e X.env = pure none) (h1 : (assignEach [.Subscript o i p2] X.env).map (·.2) = [assign (.Subscript o i p2) X.env]) :
    PS X (.Assign [.Subscript o i p2] e pos) (semS ⟨X.K, tabs⟩ EX lv (sSubW putKD dox di de)) := PS.imp (ps_asg ha (pg_sub ho hi (set_dict (by omega)) hasg) hs hw h1) fun Dn σ H h => by
  obtain ⟨ρ, S, ι, he, hs, hw⟩ := h
  refine stepES he hs hw fun d S1 v H1 ι1 l1 s1 r1 e1 h1 => ?_
  refine stepES e1 s1 h1 fun x S2 vx H2 ι2 l2 s2 r2 e2 h2 => ?_
  refine stepES e2 s2 h2 fun y S3 vy H3 ι3 l3 s3 r3 e3 h3 => ?_
  have rd := Rep.mono (l2.trans l3) d v r1
  have rx := Rep.mono l3 x vx r2
  unfold putKD at h3
  split at h3
  · rename_i r k ek
    split at h3
    · rename_i kvs e5
      split at h3
      · rename_i hl
        obtain ⟨a, rfl, hA⟩ := rx
        obtain ⟨ws, k1, k2, k3⟩ := s3.obj r _ a e5 hA
        have hlw : ws.length < sizeLine := by
          have z : kvs.length = ws.length := by simpa using congrArg List.length k2
          have := sizeLine_eq
          rw [← z]; exact Nat.lt_of_le_of_lt hl (by decide)
        have lA : Le ι3 H3 ι3 (upd H3 a (.dK (putK ws k v))) := ⟨fun _ _ z => z, fun b vs z => by
          rw [upd_ne (fun q => by rw [q, k1] at z; cases z)]; exact z, fun b o u z => by
          rw [upd_ne (fun q => by rw [q, k1] at z; cases z)]; exact z⟩
        obtain ⟨g1, g2⟩ := put_rep (k := k) (Rep.mono lA d v rd) k2 (RepL.mono lA _ _ k3)
        obtain ⟨s4, l4⟩ := s3.put (u := .dK (putK ws k v)) (o' := .dk (setK kvs k d)) e5 hA rfl rfl ⟨_, upd_same, g1, g2⟩
        exact ⟨a, _, rfl, .inl ⟨ws, k, k1, key_v ek r3, hlw, rfl⟩, h3 σ _ ι3 l4 s4 (e3.mono l4)⟩
      · exact h3.elim
    · exact h3.elim
  · exact h3.elim
theorem zsubA (hu : X.A.units + 64 < cLine) (ho : PE X o (semE ⟨X.K, tabs⟩ EX lv dox)) (hi : PE X i (semE ⟨X.K, tabs⟩ EX lv di)) (ha : PE X e (semE ⟨X.K, tabs⟩ EX lv de))
    (hasg : ∀ v, assign (.Subscript o i p2) X.env v = (do
      let ov ← holding [v] (eval o X.env)
      let iv ← holding [v, ov] (eval i X.env)
      standAt p2
      holding [v, ov, iv] (setItem ov iv v)
      release [v, ov, iv] []) := by intro _; rfl) (hs : swapsWithSole [.Subscript o i p2] e pos.line X.env = pure false := by rfl) (hw : swappedStores [.Subscript o i p2] e X.env = pure none := by rfl) (h1 : (assignEach [.Subscript o i p2] X.env).map (·.2) = [assign (.Subscript o i p2) X.env] := by rfl) :
    PS X (.Assign [.Subscript o i p2] e pos) (semS ⟨X.K, tabs⟩ EX lv (sSubW setA dox di de)) := by
  refine PS.imp (PS.or (sd_putK hu ho hi ha hasg hs hw h1) (sd_sub ho hi ha hasg hs hw h1)) fun Dn σ H h => ?_
  obtain ⟨ρ, S, ι, he, hs, hw⟩ := h
  have z := sub_two (f := setA) (f1 := putKD) (f2 := setD) (fun x y v S => by unfold setA; split <;> simp) hw
  exact z.imp (fun z => ⟨ρ, S, ι, he, hs, z⟩) fun z => ⟨ρ, S, ι, he, hs, z⟩
end
end Dv

namespace Dv
open PySem PySem.Spec PyProof.Rows L2 Gr
/-! ### {k: v, ..} -/
abbrev DenP := Lv → Env → Sto → R (List (Key × D))
def pNil : DenP := fun _ _ S => .ok [] S
def pCons (k v : Den) (r : DenP) : DenP := fun lv ρ S => (k lv ρ S).bind fun x S1 => (v lv ρ S1).bind fun y S2 => match kyD x with
  | some q => (r lv ρ S2).bind fun m S3 => .ok ((q, y) :: m) S3
  | none => .no
def mergeD (kvs more : List (Key × D)) : List (Key × D) := more.foldl (fun acc q => setK acc q.1 q.2) kvs
def dDisp (p : DenP) : Den := fun lv ρ S => (p lv ρ (S ++ [.dk []])).bind fun m S1 => match S1[S.length]? with
  | some (.dk []) => if m.length ≤ 15 then .ok (.ref S.length) (S1.set S.length (.dk (mergeD [] m))) else .no
  | _ => .no
def PM (w : Wn) (ι : List Addr) (H : Hp) (F : List (V × V) → Hp → Prop) : List (Key × D) → Sto → Prop := fun m S' => ∀ (ws : List (Key × V)) H' ι', Le ι H ι' H' → SRep w.K w.tabs ι' S' H' → m.map (·.1) = ws.map (·.1) → RepL w.K ι' H' (m.map (·.2)) (ws.map (·.2)) → F (ws.map fun q => (kV q.1, q.2)) H'
theorem PM.mono {w : Wn} {ι ι1 : List Addr} {H H1 : Hp} {F : List (V × V) → Hp → Prop} {m : List (Key × D)} {S : Sto} (l : Le ι H ι1 H1) (h : PM w ι H F m S) : PM w ι1 H1 F m S := fun ws H' ι' l' => h ws H' ι' (l.trans l')
def PKs (X : Cx) (w : Wn) (EX : EXT) (lv : Lv) (pos : Pos) (keys : List (Option Expr)) (values : List Expr) (d : DenP) : Prop :=
  ∃ trs, PPs X pos keys values trs ∧ ∀ σ H F, (∃ ρ S ι, ERep w.K ι H ρ σ ∧ SRep w.K w.tabs ι S H ∧ (d lv ρ S).wp (PM w ι H F) (PX w EX ι H σ)) → tPairs trs σ H F
section
variable {X : Cx} {EX : EXT} {lv : Lv} {w : Wn} {tabs : List Addr} {pos : Pos}
theorem pk_nil : PKs X w EX lv pos [] [] pNil := by
  refine ⟨[], pps_nil, fun σ H F h => ?_⟩
  obtain ⟨ρ, S, ι, he, hs, hw⟩ := h
  exact hw [] H ι (Le.refl _ _) hs rfl rfl
theorem pk_cons {k v : Expr} {ks : List (Option Expr)} {vs : List Expr} {dk dv : Den} {r : DenP} (hk : PE X k (semE w EX lv dk)) (hv : PE X v (semE w EX lv dv)) (hr : PKs X w EX lv pos ks vs r) : PKs X w EX lv pos (some k :: ks) (v :: vs) (pCons dk dv r) := by
  obtain ⟨trs, h1, h2⟩ := hr
  refine ⟨_, pps_cons hk hv h1, fun σ H F h => ?_⟩
  obtain ⟨ρ, S, ι, he, hs, hw⟩ := h
  refine stepE (Po := fun ι H => PM w ι H F) he hs (fun l q => q.mono l) hw fun x S1 v H1 ι1 l1 s1 r1 e1 h1 => ?_
  refine stepE (Po := fun ι H => PM w ι H F) e1 s1 (fun l q => q.mono l) h1 fun y S2 u H2 ι2 l2 s2 r2 e2 h2' => ?_
  split at h2'
  · rename_i q eq
    refine h2 σ H2 _ ⟨ρ, S2, ι2, e2, s2, R.wp_mono (R.wp_bind.mp h2') (fun m S3 z => ?_) fun c S3 z => z⟩
    intro ws H3 ι3 l3 s3 g1 g2
    have hx : v = kV q := key_v eq (Rep.mono l2 x v r1)
    rw [hx]
    exact z ((q, u) :: ws) H3 ι3 l3 s3 (by simpa using g1) ⟨u, _, rfl, Rep.mono l3 y u r2, g2⟩
  · exact h2'.elim
theorem merge_rep {K : PySem.W.Frag} {ι : List Addr} {H : Hp} : ∀ {m : List (Key × D)} {ws : List (Key × V)} {kvs : List (Key × D)} {us : List (Key × V)}, m.map (·.1) = ws.map (·.1) → RepL K ι H (m.map (·.2)) (ws.map (·.2)) → kvs.map (·.1) = us.map (·.1) → RepL K ι H (kvs.map (·.2)) (us.map (·.2)) →
    (mergeD kvs m).map (·.1) = (mergeK us ws).map (·.1) ∧ RepL K ι H ((mergeD kvs m).map (·.2)) ((mergeK us ws).map (·.2))
  | [], [], _, _, _, _, e, r => ⟨e, r⟩
  | [], _ :: _, _, _, e, _, _, _ => by simp at e
  | _ :: _, [], _, _, e, _, _, _ => by simp at e
  | (k1, d1) :: m, (k2, v2) :: ws, kvs, us, e, r, e0, r0 => by
    simp only [List.map_cons, List.cons.injEq] at e
    obtain ⟨rfl, e⟩ := e
    obtain ⟨v, rr, ev, q1, q2⟩ := r
    cases ev
    obtain ⟨g1, g2⟩ := put_rep (k := k1) q1 e0 r0
    exact merge_rep (m := m) (ws := ws) e q2 g1 g2
theorem xdisp {keys : List (Option Expr)} {values : List Expr} {d : DenP} (hp : PKs X ⟨X.K, tabs⟩ EX lv pos keys values d) (hall : keys.all (·.isSome) = true := by rfl) (hl : keys.length = values.length := by rfl) (h0 : keys ≠ [] := by simp) (h15 : keys.length ≤ 15 := by decide) :
    PE X (.Dict keys values pos) (semE ⟨X.K, tabs⟩ EX lv (dDisp d)) := by
  obtain ⟨trs, h1, h2⟩ := hp
  refine PE.imp (pe_disp h1 hall hl h0 h15) fun σ H Q h => ?_
  obtain ⟨ρ, S, ι, he, hs, hw⟩ := h
  intro p hp
  obtain ⟨s2, l2, r2⟩ := new_dk (w := ⟨X.K, tabs⟩) hs hp
  have hw2 := R.wp_mono hw (fun _ _ q => PV.mono l2 q) fun _ _ q => PX.mono l2 q
  refine h2 σ _ _ ⟨ρ, _, _, he.mono l2, s2, R.wp_mono (R.wp_bind.mp hw2) (fun m S1 z => ?_) fun c S1 z => z⟩
  intro ws H1 ι1 l1 s1 g1 g2
  split at z
  · rename_i ek
    split at z
    · rename_i hl
      have hA : ι1[S.length]? = some p := by
        obtain ⟨a, ea, q⟩ := Rep.mono l1 _ _ r2
        cases ea
        exact q
      obtain ⟨us, k1, k2, k3⟩ := s1.obj _ _ p ek hA
      have ews : us = [] := by
        cases us with
        | nil => rfl
        | cons _ _ => simp at k2
      subst ews
      have hlen : m.length = ws.length := by simpa using congrArg List.length g1
      refine ⟨k1, ws, rfl, by omega, ?_⟩
      have l3 : Le ι1 H1 ι1 (upd H1 p (.dK (mergeK [] ws))) := ⟨fun _ _ z => z, fun b vs z => by
        rw [upd_ne (fun q => by rw [q, k1] at z; cases z)]; exact z, fun b o u z => by
        rw [upd_ne (fun q => by rw [q, k1] at z; cases z)]; exact z⟩
      obtain ⟨f1, f2⟩ := merge_rep (kvs := []) (us := []) g1 (RepL.mono l3 _ _ g2) rfl rfl
      obtain ⟨s4, l4⟩ := s1.put (u := .dK (mergeK [] ws)) (o' := .dk (mergeD [] m)) ek hA rfl rfl ⟨_, upd_same, f1, f2⟩
      exact z _ _ ι1 (l1.trans l4) s4 ⟨p, rfl, hA⟩
    · exact z.elim
  · exact z.elim
/-! ### names -/
end
section
variable {X : Cx} {EX : EXT} {lv : Lv} {tabs : List Addr} {e : Expr} {es : List Expr} {ra : DenA} {p pos : Pos}
theorem xrepr {k : Nat} (hr : RoomG k X.A) (hm : X.mg "repr" = none) (ha : PA X (e :: es) (semA ⟨X.K, tabs⟩ EX lv ra)) (hg : Gl X "repr" := by rfl) (he : starEach (e :: es) X.env = (false, eval e X.env) :: starEach es X.env := by rfl) (hpl : (backTo pos (starEach es X.env)).any (·.1) = false := by rfl) :
    PE X (.Call (.Name "repr" p) (e :: es) [] pos) (semE ⟨X.K, tabs⟩ EX lv (dCl reprD ra)) := pd_callB (crd_repr hr.units hr.gd) hg hm bi_repr ha (by decide) (by decide) he hpl
theorem xintc (hm : X.mg "int" = none) (ha : PA X (e :: es) (semA ⟨X.K, tabs⟩ EX lv ra)) (hg : Gl X "int" := by rfl) (he : starEach (e :: es) X.env = (false, eval e X.env) :: starEach es X.env := by rfl) (hpl : (backTo pos (starEach es X.env)).any (·.1) = false := by rfl) :
    PE X (.Call (.Name "int" p) (e :: es) [] pos) (semE ⟨X.K, tabs⟩ EX lv (dCl intD ra)) := pd_callTy crd_int hg hm bt_int ha (by decide) (by decide) he hpl
theorem xgetK {a b : Expr} {da db : Den} (hu : X.A.units + 64 < cLine) (ha : PE X a (semE ⟨X.K, tabs⟩ EX lv da)) (hb : PE X b (semE ⟨X.K, tabs⟩ EX lv db)) (hs : PlainIx b := by intro _ _; rfl) : PE X (.Subscript a b pos) (semE ⟨X.K, tabs⟩ EX lv (dOp getKD da db)) := pd_getK hu ha hb hs
theorem zputK {o i : Expr} {de dox di : Den} {p2 : Pos} (hu : X.A.units + 64 < cLine) (ho : PE X o (semE ⟨X.K, tabs⟩ EX lv dox)) (hi : PE X i (semE ⟨X.K, tabs⟩ EX lv di)) (ha : PE X e (semE ⟨X.K, tabs⟩ EX lv de))
    (hasg : ∀ v, assign (.Subscript o i p2) X.env v = (do
      let ov ← holding [v] (eval o X.env)
      let iv ← holding [v, ov] (eval i X.env)
      standAt p2
      holding [v, ov, iv] (setItem ov iv v)
      release [v, ov, iv] []) := by intro _; rfl) (hs : swapsWithSole [.Subscript o i p2] e pos.line X.env = pure false := by rfl) (hw : swappedStores [.Subscript o i p2] e X.env = pure none := by rfl) (h1 : (assignEach [.Subscript o i p2] X.env).map (·.2) = [assign (.Subscript o i p2) X.env] := by rfl) :
    PS X (.Assign [.Subscript o i p2] e pos) (semS ⟨X.K, tabs⟩ EX lv (sSubW putKD dox di de)) := sd_putK hu ho hi ha hasg hs hw h1
theorem units66 {k : Nat} (hr : RoomG k X.A) : X.A.units + 66 < cLine := by have := hr.un; omega
end
end Dv

namespace Dv
open PySem PySem.Spec PyProof.Rows L2 Gr
def zipS (x y : D) (S : Sto) : Option Src := match x, y with
  | .tup xs, .tup ys => some (.zipT xs ys)
  | .ref i, .ref j => match S[i]?, S[j]? with
    | some (.lst w xs), some (.lst v ys) => some (.zipL i j w v xs ys)
    | _, _ => none
  | .tup xs, .ref j => match S[j]? with
    | some (.lst v ys) => some (.zTL j v xs ys)
    | _ => none
  | .ref i, .tup ys => match S[i]? with
    | some (.lst w xs) => some (.zLT i w xs ys)
    | _ => none
  | _, _ => none
def srcR : Option Src → Sto → R Src
  | some s, S => .ok s S
  | none, _ => .no
def ziK : List D → Sto → R Src := fun xs S => match xs with
  | [x, y] => srcR (zipS x y S) S
  | _ => .no
def iZip2 (a : DenA) : DenI := fun lv ρ S => (a lv ρ S).bind ziK
def enuS (x : D) (S : Sto) : Option Src := match x with
  | .tup xs => some (.enuT xs)
  | .ref i => match S[i]? with
    | some (.lst w xs) => some (.enu i w xs)
    | _ => none
  | _ => none
def enK : List D → Sto → R Src := fun xs S => match xs with
  | [x] => srcR (enuS x S) S
  | _ => .no
def iEnu (a : DenA) : DenI := fun lv ρ S => (a lv ρ S).bind enK
section
variable {X : Cx} {EX : EXT} {lv : Lv} {tabs : List Addr} {e e2 : Expr} {ra : DenA} {p pos tpos : Pos} {elts : List Expr} {kk : Nat}
end
section
variable {X : Cx} {w : Wn} {EX : EXT} {lv : Lv} {a b : Expr} {da db : Den} {pos : Pos}
theorem xcmpI {op : CmpOp} {o : Op2} (ho : OpR X (compareOp op) (rOp w o)) (ha : PE X a (semE w EX lv da)) (hb : PE X b (semE w EX lv db)) (hm : behindInMarks op b = false := by rfl) : PE X (.Compare a [op] [b] pos) (semE w EX lv (dOp o da db)) := pd_cmp ho ha hb hm
theorem ycmpI {op : CmpOp} {o : Op2} (ho : OpR X (compareOp op) (rOp w o)) (ha : PE X a (semE w EX lv da)) (hb : PE X b (semE w EX lv db)) (hm : behindInMarks op b = false := by rfl) : PT X (.Compare a [op] [b] pos) (semT w EX lv (dBl (dOp o da db))) := td_cmp ho ha hb hm
end
end Dv

namespace Gx
open PySem PySem.Spec PyProof.Rows L2 GenW Gr
section
variable {X : Cx} {pins : List (Addr × Obj)} {σ : L2.St} {s : Shared}
theorem room_in4 {j : Nat} {A : Around} (r : RoomG (j + 1) A) (env : Env) : RoomG j (A.in1.in1.in1.in1.deeper env) :=
  ⟨⟨r.hd, by have := r.dp; show A.depth + 1 + 3 * j + 5 < _; omega, by have := r.un; show A.units + 1 + 1 + 1 + 1 + 3 + 16 * j + 200 < _; omega⟩, r.gd⟩
/-- tuple(gen) -/
theorem call_tupleG {j : Nat} {QE : List V → Hp → Prop} {a : Addr} {g : Nat} {E : Value → Shared → Prop} {Q : Value → Shared → Prop} (hr : RoomG (j + 1) X.A) (hF : X.A.frames = some X.stack) (f : FeedL X pins σ j QE a g s)
    (h : ∀ us ys H s', Vals ys us → us.length ≤ sizeLine → Inv X pins σ H s' → QE ys H → Q (.ref s'.heap.objs.size) { s' with heap := s'.heap.push { cls := .type "tuple", data := .seq us.toArray } }) (hsz : ∀ ys H, QE ys H → ys.length ≤ sizeLine) :
    wpAny (model X.prog X.w) X.A (call (.type "tuple") [.ref a]) Q E s := by
  refine callType_codes (Q₁ := fun ob t => t.TypeIs ob "tuple" ∧ Q ob t) F.called_tuple (F.typeCall_tuple_1 _) F.entry_object_init
    (code_tuple_newG (X := X) (A := X.A.in1) hr.hd hr.depth hF (fun env => room_in4 hr env) f (fun us ys H s' rv hz I q => ⟨⟨_, Heap.get?_push_size _ rfl, rfl⟩, h us ys H s' rv hz I q⟩) hsz) fun ob t ht => ?_
  exact ⟨ht.1, F.args_object_init_2 ob _, object_init_meets F.called_tuple.init.lookup F.called_tuple.made (by decide) X.prog X.w X.A.in1 _ t ⟨ht.1, rfl, ht.2⟩⟩
theorem boot_tupleG : bootBuiltins "tuple" = some (.type "tuple") := by decide +kernel
theorem pe_tupleG {c P : Addr} {elt tg iter : Expr} {ifs : List Expr} {scope : Scope} {gpos p pos : Pos} {own : List (Str × Nat)} {wi : TI} {gt : TG} {tt : TT} {te : TE} {j : Nat} {QQ : VK → List V → Hp → Prop}
    (hr : RoomG (j + 1) X.A) (hgl : Gl X "tuple") (hm : X.mg "tuple" = none) (hN : X.N.Nodup) (TB : LamX.TabB X.base X.mg c P) (hcode : X.env.code = .ref c) (S : GScp X.N X.env.scope scope own) (hi : PI X tg iter wi)
    (hp : GParts X j scope tg ifs elt gt tt te) (hs : ∀ v, genFold iter X.env v = pure v)
    (fin : ∀ (Q : VK) ys H, QQ Q ys H → ys.length ≤ sizeLine ∧ Fz.At H Q ys)
    (he : starEach [.GeneratorExp elt [⟨tg, iter, ifs, 0⟩] scope gpos] X.env = (false, eval (.GeneratorExp elt [⟨tg, iter, ifs, 0⟩] scope gpos) X.env) :: starEach [] X.env := by rfl) :
    PE X (.Call (.Name "tuple" p) [.GeneratorExp elt [⟨tg, iter, ifs, 0⟩] scope gpos] [] pos) (fun σ H Q => wi σ H fun J H1 => TabG H1 P ∧ ∀ H2, Tabbed P H1 H2 → TurnL J gt tt te (own.map (·.2)) σ (QQ Q) H2) := by
  refine ⟨fun pins s σ H Q I h => ?_⟩
  refine wpAny_Call_Name_kw (ld_blt I hgl hm boot_tupleG ?_)
  refine PyProof.Rows.callWith_type1 ?_ he (by rfl)
  rw [he]
  show wpAny _ _ (spliced ((false, eval (.GeneratorExp elt [⟨tg, iter, ifs, 0⟩] scope gpos) X.env) :: backTo pos (starEach [] X.env))) _ _ s
  refine Calls.spliced_cons (gen_madeL hr hN TB hcode S hi hp hs I h fun a g s5 f => ?_)
  refine Calls.spliced_nil ?_
  refine call_tupleG hr I.ok.frames f (fun us ys H s' rv hz I' q => ?_) fun ys H q => (fin Q ys H q).1
  obtain ⟨z, q'⟩ := fin Q ys H q
  exact Fz.put I' rv z q'
end
end Gx
namespace Dv
open PySem PySem.Spec PyProof.Rows L2 Gr
def tgK : List D → Sto → R D := fun ys S => if ys.length ≤ mx then .ok (.tup ys) S else .no
noncomputable def dTg (di : DenI) (t : Tg) (cond : DenT) (elt : Den) (vs : List Nat) : Den := fun lv ρ S => (di lv ρ S).bind fun src S1 => (glGo src.chk t (cond lv.dn) (elt lv.dn) (wipeE ρ vs) src.items [] S1).bind tgK
section
variable {X : Cx} {EX : EXT} {lv : Lv} {elt tg iter : Expr} {ifs : List Expr} {scope : Scope} {own : List (Str × Nat)} {p pos : Pos} {di : DenI} {t : Tg} {tc : DenT} {de : Den}
theorem pd_tupleG {tabs : List Addr} {c P : Addr} {gpos : Pos} {j : Nat} (hP : P ∈ tabs) (hv : ∀ i ∈ t.slots, i ∈ own.map (·.2)) (hr : RoomG (j + 1) X.A) (hgl : Gl X "tuple") (hm : X.mg "tuple" = none) (hN : X.N.Nodup) (TB : LamX.TabB X.base X.mg c P) (hcode : X.env.code = .ref c) (G : Gx.GScp X.N X.env.scope scope own)
    (hi : PI X tg iter (semI ⟨X.K, tabs⟩ EX lv di)) (hp : Gx.GParts X j scope tg ifs elt (semG ⟨X.K, tabs⟩ t) (semT ⟨X.K, tabs⟩ noE lv.dn tc) (semE ⟨X.K, tabs⟩ noE lv.dn de)) (hs : ∀ v, genFold iter X.env v = pure v) :
    PE X (.Call (.Name "tuple" p) [.GeneratorExp elt [⟨tg, iter, ifs, 0⟩] scope gpos] [] pos) (semE ⟨X.K, tabs⟩ EX lv (dTg di t tc de (own.map (·.2)))) := by
  refine PE.imp (Gx.pe_tupleG (QQ := fun Q => glQ ⟨X.K, tabs⟩ tgK Q) hr hgl hm hN TB hcode G hi hp hs fun Q ys H q => ?_) fun σ H Q h => gl_read (fun ds S c S' e => ?_) hP hv h
  · obtain ⟨S, ι, ds, hs, l, hw⟩ := q
    unfold tgK at hw
    split at hw
    · rename_i hc
      refine ⟨by rw [← l.len]; exact mx_le hc, fun q _ hq => ?_⟩
      exact hw _ _ ι (le_upd hq) (hs.extra hq) (repT hq l)
    · exact hw.elim
  · unfold tgK at e
    split at e <;> cases e
end
/-! ### bits, op= -/
def shlD : Op2
  | .int i, .int j, S => if 0 ≤ j ∧ j ≤ 1000 ∧ i.natAbs < 18446744073709551616 then .ok (.int (i * 2 ^ j.toNat)) S else .no
  | _, _, _ => .no
def shrD : Op2
  | .int i, .int j, S => if 0 ≤ j then .ok (.int (i / 2 ^ j.toNat)) S else .no
  | _, _, _ => .no
def andD : Op2
  | .int i, .int j, S => .ok (.int (Builtin.bitAnd i j)) S
  | _, _, _ => .no
def iaddD : Op2
  | .int i, .int j, S => .ok (.int (i + j)) S
  | _, _, _ => .no
section
variable {X : Cx} {tabs : List Addr}
theorem opd_shr : OpR X (binaryOp .RShift) (rOp ⟨X.K, tabs⟩ shrD) := by
  rintro pins s σ H x y v u Q I rx ry ⟨S, ι, d1, d2, hs, r1, r2, hw⟩
  cases d1 <;> cases d2 <;> first | exact False.elim hw | skip
  cases r1; cases r2
  unfold shrD at hw
  try dsimp only at hw
  split at hw
  · rename_i hc
    exact op_shr pins s σ H _ _ v u Q I rx ry ⟨_, _, rfl, rfl, hc, PV.now hw hs rfl⟩
  · exact hw.elim
theorem opd_and : OpR X (binaryOp .BitAnd) (rOp ⟨X.K, tabs⟩ andD) := by
  rintro pins s σ H x y v u Q I rx ry ⟨S, ι, d1, d2, hs, r1, r2, hw⟩
  cases d1 <;> cases d2 <;> first | exact False.elim hw | skip
  cases r1; cases r2
  exact op_and pins s σ H _ _ v u Q I rx ry ⟨_, _, rfl, rfl, PV.now hw hs rfl⟩
theorem opd_shl : OpR X (binaryOp .LShift) (rOp ⟨X.K, tabs⟩ shlD) := by
  rintro pins s σ H x y v u Q I rx ry ⟨S, ι, d1, d2, hs, r1, r2, hw⟩
  cases d1 <;> cases d2 <;> first | exact False.elim hw | skip
  cases r1; cases r2
  unfold shlD at hw
  try dsimp only at hw
  split at hw
  · rename_i hc
    exact op_shl pins s σ H _ _ v u Q I rx ry ⟨_, _, rfl, rfl, ⟨by omega, by omega, by omega⟩, PV.now hw hs rfl⟩
  · exact hw.elim
theorem ipd_addI : PIp X .Add (rOp ⟨X.K, tabs⟩ iaddD) := by
  rintro pins s σ H x y v u Q I rx ry ⟨S, ι, d1, d2, hs, r1, r2, hw⟩
  cases d1 <;> cases d2 <;> first | exact False.elim hw | skip
  cases r1; cases r2
  exact iop_add pins s σ H _ _ v u Q I rx ry ⟨_, _, rfl, rfl, PV.now hw hs rfl⟩
def imulD : Op2
  | .int i, .int j, S => if (-18446744073709551616 < i ∧ i < 18446744073709551616) ∨ (-18446744073709551616 < j ∧ j < 18446744073709551616) then .ok (.int (i * j)) S else .no
  | _, _, _ => .no
theorem ipd_mulI : PIp X .Mult (rOp ⟨X.K, tabs⟩ imulD) := by
  rintro pins s σ H x y v u Q I rx ry ⟨S, ι, d1, d2, hs, r1, r2, hw⟩
  cases d1 <;> cases d2 <;> first | exact False.elim hw | skip
  cases r1; cases r2
  unfold imulD at hw
  try dsimp only at hw
  split at hw
  · rename_i hc
    exact iop_mul pins s σ H _ _ v u Q I rx ry ⟨_, _, rfl, rfl, hc, PV.now hw hs rfl⟩
  · exact hw.elim
theorem zaug {w : Wn} {EX : EXT} {lv : Lv} {e : Expr} {de : Den} {pos pos' : Pos} (i : Nat) {x : Str} {op : Operator} {o : Op2} (hN : X.N.Nodup) (ho : PIp X op (rOp w o)) (ha : PE X e (semE w EX lv de)) (hi : X.N[i]? = some x := by rfl) (hx : Loc X.env.scope x := by exact .inl rfl) (hf : X.fn x = true ∨ X.env.scope.names.lookup x = some .local := by exact .inl rfl) :
    PS X (.AugAssign (.Name x pos') op e pos) (semS w EX lv (sAug i o de)) := sd_aug hN hi hx ha ho hf
end
section
variable {X : Cx} {w : Wn} {EX : EXT} {lv : Lv} {elt tg iter : Expr} {ifs : List Expr} {scope : Scope} {pos spos py : Pos} {di : DenI} {t : Tg} {tc : DenT} {de : Den} {y : Str}
theorem zlc (i : Nat) (own : List (Str × Nat)) (hN : X.N.Nodup) (hi : PI X tg iter (semI w EX lv di)) (ok : BlkOk X.N X.env.scope scope own) (hp : LParts X scope tg ifs elt (semG w t) (semT w noE lv tc) (semE w noE lv de))
    (hy : X.N[i]? = some y := by rfl) (hyl : X.env.scope.names.lookup y = some .local := by rfl) (hsw : swapsWith (.ListComp elt [⟨tg, iter, ifs, 0⟩] scope pos) (some (.Name y py)) spos.line X.env = pure true := by rfl)
    (hv : ∀ i ∈ t.slots, i ∈ own.map (·.2) := by decide) (hc : X.calm = true := by rfl) (hs : ∀ x, foldedSetIterable iter X.env x = pure x := by intro _; rfl) :
    PS X (.Assign [.Name y py] (.ListComp elt [⟨tg, iter, ifs, 0⟩] scope pos) spos) (semS w EX lv (sAsg (.nm i) (dLc di t tc de (own.map (·.2))))) := sd_lc hc hN hy hyl hsw hi ok hv hp hs
end
end Dv

namespace Dv
open PySem PySem.Spec PyProof.Rows L2 Gr
section
variable {X : Cx} {pins : List (Addr × Obj)} {σ : L2.St} {H : Hp} {s : Shared}
/-- sorted of a dict's keys, all of them ints -/
theorem call_sortedKs (hcalm : X.calm = true) (I : Inv X pins σ H s) {v a : Addr} {kvs : List (Key × V)} {ks : List Int} {Q : VK} (hv : PySem.W.KdlKeysView s.heap v a) (hH : H a = some (.dK kvs)) (hks : kvs.map (·.1) = ks.map Sum.inl) (h64 : ks.length < 64)
    (q : ∀ (ys : List Int) (p : Addr), ys.Perm ks → ys.Pairwise (· ≤ ·) → H p = none → Q (.ref p) (upd H p (.lst (ys.map V.int)))) : wpAny (model X.prog X.w) X.A (call (.builtin "sorted") [.ref v]) (EP X pins σ Q) X.xe s := by
  obtain ⟨_, lo, vs, rel, dd⟩ := dk_of I.hok hH
  obtain ⟨ep, da⟩ := dd.dictAt
  have kk : vs.map (·.1) = ks.map Sum.inl := by rw [← hks]; exact rel.keys.symm
  have ln : vs.length = ks.length := by simpa using congrArg List.length kk
  have sz := sizeLine_eq
  apply Calls.call_function_entry PyProof.Rows.kind_sorted PyProof.Rows.plain_sorted PyProof.Rows.entry_sorted (PyProof.Rows.args_sorted1 _)
  unfold Builtin.«sorted»
  apply wpAny_bind (m := checkCount "sorted" 1 1 _)
  apply wpAny_pure
  apply wpAny_bind
  refine PySem.W.kdu_collect (A := X.A.in1) (PySem.W.kdl_keys (knd := mixKind X.prog X.w) (kvs := vs) (ep := ep) (r := v) (d := a)) (I.ok.hd hcalm) ⟨hv, da⟩ (by omega) fun h1 t1 acc hk ha => ?_
  have la : acc.toList.length = ks.length := by rw [Array.length_toList, ha.1, ln]
  have isI : IntsAre acc.toList ks := by
    refine ints_each la fun j u e => ?_
    obtain ⟨k, x, e1, e2⟩ := ha.2 j u (by simpa using e)
    have e3 : (ks.map Sum.inl)[j]? = some k := by rw [← kk, List.getElem?_map, e1]; rfl
    rw [List.getElem?_map] at e3
    obtain ⟨y, e4, rfl⟩ := Option.map_eq_some_iff.mp e3
    rcases keyIs_shape (show keyIs (Sum.inl y) u = true from e2) with ⟨i, t, ek, ev⟩ | ⟨z, t, ek, ev⟩
    · cases ek
      exact ⟨y, t, e4, ev⟩
    · cases ek
  have J : Inv X pins σ H { s with heap := h1, toks := t1 } := I.kept hk
  apply wpAny_bind
  refine wpAny_newList ?_ (by omega)
  have ol : (h1.push (seqObj "list" acc.toList.toArray 0)).get? h1.objs.size = some (seqObj "list" acc.toList.toArray 0) := Heap.get?_push_size _ rfl
  show wpAny _ _ _ _ _ { s with heap := h1.push (seqObj "list" acc.toList.toArray 0), toks := t1 }
  apply wpAny_bind
  apply wpAny_holding
  refine wpAny_call_entry PyProof.Rows.slot_list_sort ⟨_, ol, rfl⟩ PyProof.Rows.entry_list_sort (PyProof.Rows.list_sort_tree (s := { s with heap := h1.push (seqObj "list" acc.toList.toArray 0), toks := t1 }) ol isI (by omega) fun out ys g1 g2 g3 => ⟨_, rfl, ?_⟩) (PyProof.Rows.args_list_sort _)
  obtain ⟨e', he'⟩ := PyProof.Rows.sortedHeap_at (vs := acc.toList) (out := out) ol
  have zl : (ys.map V.int).length ≤ sizeLine := by rw [List.length_map, g2.length_eq]; omega
  have ok : ObjOk X.prog X.w (upd H h1.objs.size (.lst (ys.map V.int))) _ h1.objs.size (.lst (ys.map V.int)) := ⟨zl, out.toList, e', vals_of_ints g1, by rw [Array.toArray_toList]; exact he'⟩
  refine wpAny_pure ⟨_, rfl, .ref h1.objs.size, upd H h1.objs.size (.lst (ys.map V.int)), J.laid (t' := t1) (fun b u e => ?_) (Nat.le_refl _) ok, rfl, q ys _ g2 g3 (J.hok.fresh (Nat.le_refl _))⟩
  have lb : b < h1.objs.size := Heap.lt_size e
  rw [PyProof.Rows.sortedHeap_old (Nat.ne_of_lt lb) (by rw [size_push']; exact Nat.lt_succ_of_lt lb)]
  exact Heap.get?_push_of_some _ e
def tSK (td : TE) : TE := fun σ H Q => td σ H fun x H1 => ∃ (a : Addr) (kvs : List (Key × V)) (ks : List Int), x = .ref a ∧ H1 a = some (.dK kvs) ∧ kvs.map (·.1) = ks.map Sum.inl ∧ ks.length < 64 ∧
  ∀ (ys : List Int) (p : Addr), ys.Perm ks → ys.Pairwise (· ≤ ·) → H1 p = none → Q (.ref p) (upd H1 p (.lst (ys.map V.int)))
theorem pe_sortedKs {o : Expr} {p pos apos mpos : Pos} {td : TE} (hc : X.calm = true) (hg : Gl X "sorted") (hm : X.mg "sorted" = none) (hd : PE X o td) (hbase : attributeBase o "keys" X.env (eval o X.env) = eval o X.env) (hline : (apos.endLine == mpos.line) = true)
    (hse : starEach [Expr.Call (.Attribute o "keys" apos) [] [] mpos] X.env = [(false, eval (Expr.Call (.Attribute o "keys" apos) [] [] mpos) X.env)]) :
    PE X (.Call (.Name "sorted" p) [.Call (.Attribute o "keys" apos) [] [] mpos] [] pos) (tSK td) := by
  constructor
  intro pins s σ H Q I h
  refine wpAny_Call_Name_kw (ld_blt I hg hm (u := .builtin "sorted") (by decide +kernel) ?_)
  rw [hse]
  refine PySem.callWith_builtin1 (wpAny_Call_method0_late hbase hline (thn (hd.run pins s σ H _ I h) fun v s1 ⟨x, H1, I1, r1, a, kvs, ks, ex, ha, hk, h64, q⟩ => ?_))
  subst ex
  obtain rfl : v = Value.ref a := r1
  obtain ⟨_, hsys, vs, rel, dof⟩ := dk_of I1.hok ha
  obtain ⟨ob, es, ep, ho, exd, hdat, hrest⟩ := dof
  refine ⟨"dict", "dict.keys", F.plainAttrs_dict, F.slot_dict_keys, F.type_dict_keys, ⟨ob, ho, exd.1⟩, fun b e => ?_, Calls.callWith_builtin rfl (PySem.evalArgs_none ?_)⟩
  · cases e
    exact ⟨ob, ho, exd.2.1⟩
  refine call_meetsIn F.slot_dict_keys ⟨ob, ho, exd.1⟩ F.entry_dict_keys (F.args_dict_keys_1 _) (PySem.meets_dict_keys_raw a hsys) ⟨⟨es, ep, ?_⟩, ?_⟩
  · exact ⟨ob, ho, exd, hdat⟩
  · have J : Inv X pins σ H1 { s1 with heap := s1.heap.push { cls := .type "dict_keys", data := .fields #[.ref a] } } := I1.kept (t' := s1.toks) fun b u e => Heap.get?_push_of_some _ e
    exact call_sortedKs hc J ⟨_, Heap.get?_push_size _ rfl, rfl, rfl⟩ ha hk h64 q
end
/-! ### the keys, by data -/
def insI (a : Int) : List Int → List Int
  | [] => [a]
  | b :: r => if a ≤ b then a :: b :: r else b :: insI a r
def srtI : List Int → List Int
  | [] => []
  | a :: r => insI a (srtI r)
theorem insI_perm {a : Int} : ∀ {l : List Int}, (insI a l).Perm (a :: l)
  | [] => .refl _
  | b :: r => by
    unfold insI
    split
    · exact .refl _
    · exact (List.Perm.cons b insI_perm).trans (.swap a b r)
theorem srtI_perm : ∀ {l : List Int}, (srtI l).Perm l
  | [] => .refl _
  | a :: r => insI_perm.trans (List.Perm.cons a srtI_perm)
theorem insI_le {a : Int} : ∀ {l : List Int}, l.Pairwise (· ≤ ·) → (insI a l).Pairwise (· ≤ ·)
  | [], _ => by simp [insI]
  | b :: r, h => by
    unfold insI
    obtain ⟨h1, h2⟩ := List.pairwise_cons.mp h
    split
    · rename_i c
      refine List.pairwise_cons.mpr ⟨fun x hx => ?_, h⟩
      rcases List.mem_cons.mp hx with rfl | hx
      · exact c
      · exact Int.le_trans c (h1 x hx)
    · rename_i c
      refine List.pairwise_cons.mpr ⟨fun x hx => ?_, insI_le h2⟩
      rcases List.mem_cons.mp (insI_perm.mem_iff.mp hx) with rfl | hx
      · omega
      · exact h1 x hx
theorem srtI_le : ∀ {l : List Int}, (srtI l).Pairwise (· ≤ ·)
  | [] => List.Pairwise.nil
  | a :: r => insI_le srtI_le
theorem le_uniq : ∀ {l m : List Int}, l.Pairwise (· ≤ ·) → m.Pairwise (· ≤ ·) → l.Perm m → l = m
  | [], m, _, _, p => p.nil_eq
  | a :: l, [], _, _, p => p.eq_nil
  | a :: l, b :: m, hl, hm, p => by
    obtain ⟨l1, l2⟩ := List.pairwise_cons.mp hl
    obtain ⟨m1, m2⟩ := List.pairwise_cons.mp hm
    have ab : a = b := by
      have h1 : a ∈ b :: m := p.mem_iff.mp List.mem_cons_self
      have h2 : b ∈ a :: l := p.mem_iff.mpr List.mem_cons_self
      rcases List.mem_cons.mp h1 with e | h1
      · exact e
      · rcases List.mem_cons.mp h2 with e | h2
        · exact e.symm
        · have := m1 a h1; have := l1 b h2; omega
    subst ab
    rw [le_uniq l2 m2 ((List.perm_cons a).mp p)]
def keysI : List (Key × D) → Option (List Int)
  | [] => some []
  | (.inl i, _) :: r => (keysI r).map (i :: ·)
  | _ => none
theorem keysI_map : ∀ {kvs : List (Key × D)} {ks : List Int}, keysI kvs = some ks → kvs.map (·.1) = ks.map Sum.inl
  | [], ks, e => by cases e; rfl
  | (.inl i, d) :: r, ks, e => by
    unfold keysI at e
    obtain ⟨k2, e1, rfl⟩ := Option.map_eq_some_iff.mp e
    simp [keysI_map e1]
  | (.inr x, d) :: r, ks, e => by cases e
def skR : Option (List Int) → Sto → R D
  | some ks, S => if ks.length < 64 then .ok (.ref S.length) (S ++ [.lst true ((srtI ks).map D.int)]) else .no
  | none, _ => .no
def skK : D → Sto → R D := fun x S => skR ((dkD x S).bind keysI) S
def dSK (o : Den) : Den := fun lv ρ S => (o lv ρ S).bind skK
theorem ints_rep {K : PySem.W.Frag} {ι : List Addr} {H : Hp} : ∀ (ks : List Int), RepL K ι H (ks.map D.int) (ks.map V.int)
  | [] => rfl
  | k :: ks => ⟨_, _, rfl, rfl, ints_rep ks⟩
theorem xsk {X : Cx} {EX : EXT} {lv : Lv} {tabs : List Addr} {o : Expr} {dox : Den} {p pos apos mpos : Pos} (hm : X.mg "sorted" = none) (hd : PE X o (semE ⟨X.K, tabs⟩ EX lv dox)) (hc : X.calm = true := by rfl) (hg : Gl X "sorted" := by rfl)
    (hbase : attributeBase o "keys" X.env (eval o X.env) = eval o X.env := by rfl) (hline : (apos.endLine == mpos.line) = true := by rfl)
    (hse : starEach [Expr.Call (.Attribute o "keys" apos) [] [] mpos] X.env = [(false, eval (Expr.Call (.Attribute o "keys" apos) [] [] mpos) X.env)] := by rfl) :
    PE X (.Call (.Name "sorted" p) [.Call (.Attribute o "keys" apos) [] [] mpos] [] pos) (semE ⟨X.K, tabs⟩ EX lv (dSK dox)) := by
  refine PE.imp (pe_sortedKs hc hg hm hd hbase hline hse) fun σ H Q h => ?_
  obtain ⟨ρ, S, ι, he, hs, hw⟩ := h
  refine stepE (Po := fun ι H => PV ⟨X.K, tabs⟩ ι H Q) he hs (fun l q => q.mono l) hw fun x S1 v H1 ι1 l1 s1 r1 e1 h1 => ?_
  unfold skK at h1
  cases e2 : dkD x S1 with
  | none => rw [e2] at h1; exact h1.elim
  | some kvs =>
    rw [e2] at h1
    cases e3 : keysI kvs with
    | none => simp only [Option.bind_some, e3] at h1; exact h1.elim
    | some ks =>
      simp only [Option.bind_some, e3, skR] at h1
      obtain ⟨i, a, ws, rfl, rfl, q1, q2, q3, q4, q5⟩ := dk_at s1 e2 r1
      split at h1
      · rename_i hl
        refine ⟨a, ws, ks, rfl, q3, by rw [← q4]; exact keysI_map e3, hl, fun ys p hp hle hn => ?_⟩
        have e : ys = srtI ks := le_uniq hle srtI_le (hp.trans srtI_perm.symm)
        subst e
        obtain ⟨s2, l2, r2⟩ := new_lst (w := ⟨X.K, tabs⟩) s1 hn (ints_rep (srtI ks))
        exact h1 _ _ _ l2 s2 r2
      · exact h1.elim
end Dv

namespace Dv
open PySem PySem.Spec PyProof.Rows L2 Gr
section
variable {X : Cx} {EX : EXT} {lv : Lv} {tabs : List Addr} {a : Expr} {da : Den} {p p2 pos pos2 : Pos}
end
end Dv

namespace Dv
open PySem PySem.Spec PyProof.Rows L2 Gr
/-! ### d.get(k) -/
def gtK2 (x : D) : D → Sto → R D := fun y S => match dkD x S, kyD y with
  | some kvs, some q => .ok ((valK kvs q).getD .non) S
  | _, _ => .no
def gtK1 (k : Den) (lv : Lv) (ρ : Env) : D → Sto → R D := fun x S => if (dkD x S).isSome = true then (k lv ρ S).bind (gtK2 x) else .no
def dGet (o k : Den) : Den := fun lv ρ S => (o lv ρ S).bind (gtK1 k lv ρ)
section
variable {X : Cx} {EX : EXT} {lv : Lv} {tabs : List Addr} {o e : Expr} {da db : Den} {apos cpos : Pos}
theorem xget (hu : X.A.units + 64 < cLine) (ha : PE X o (semE ⟨X.K, tabs⟩ EX lv da)) (hb : PE X e (semE ⟨X.K, tabs⟩ EX lv db))
    (h1 : attributeBase o "get" X.env (eval o X.env) = eval o X.env := by rfl)
    (h2 : ((backTo cpos (starEach [e] X.env)).all (fun x => !x.1) && (backToKw cpos (keywordEach [] X.env)).all (fun x => x.1.isSome) && decide (([e] : List Expr).length + ([] : List Keyword).length + (if ([] : List Keyword).isEmpty then 0 else 1) < 30)) = true := by rfl)
    (h3 : (apos.endLine == cpos.line) = true := by rfl) (h4 : backTo cpos (starEach [e] X.env) = [(false, eval e X.env)] := by rfl) : PE X (.Call (.Attribute o "get" apos) [e] [] cpos) (semE ⟨X.K, tabs⟩ EX lv (dGet da db)) := by
  refine PE.imp (pe_dget1 (by omega) ha hb ⟨h1, h2, h3, h4⟩) fun σ H Q h => ?_
  obtain ⟨ρ, S, ι, he, hs, hw⟩ := h
  refine stepE (Po := fun ι H => PV ⟨X.K, tabs⟩ ι H Q) he hs (fun l q => q.mono l) hw fun x S1 v H1 ι1 l1 s1 r1 e1 h1 => ?_
  unfold gtK1 at h1
  split at h1
  · rename_i c
    obtain ⟨kvs, z1⟩ := Option.isSome_iff_exists.mp c
    obtain ⟨i, p, ws, rfl, rfl, q1, q2, q3, q4, q5⟩ := dk_at s1 z1 r1
    refine ⟨p, rfl, .inl ⟨ws, .inl q3⟩, ?_⟩
    refine stepE (Po := fun ι H => PV ⟨X.K, tabs⟩ ι H Q) e1 s1 (fun l q => q.mono l) h1 fun y S2 u H2 ι2 l2 s2 r2 e2 h2 => ?_
    unfold gtK2 at h2
    split at h2
    · rename_i kvs' k z1' z2
      obtain ⟨i', p', ws', ei, ep, q1', q2', q3', q4', q5'⟩ := dk_at s2 z1' (Rep.mono l2 _ _ r1)
      cases ei
      cases ep
      obtain ⟨w1, w2⟩ := val_rep (k := k) q4' q5'
      refine ⟨valV ws' k, .inl ⟨ws', k, .inl q3', key_v z2 r2, rfl⟩, ?_⟩
      cases c2 : valK kvs' k with
      | none =>
        rw [c2] at h2
        rw [w2 c2]
        exact PV.now h2 s2 rfl
      | some d =>
        rw [c2] at h2
        obtain ⟨v2, e2, r3⟩ := w1 d c2
        rw [e2]
        exact PV.now h2 s2 r3
    · exact h2.elim
  · exact h1.elim
end
/-! ### len(set(l)), no number twice -/
def intsD : List D → Option (List Int)
  | [] => some []
  | .int i :: r => (intsD r).map (i :: ·)
  | _ => none
theorem intsD_map : ∀ {xs : List D} {ns : List Int}, intsD xs = some ns → xs = ns.map D.int
  | [], ns, e => by cases e; rfl
  | .int i :: r, ns, e => by
    unfold intsD at e
    obtain ⟨n2, e1, rfl⟩ := Option.map_eq_some_iff.mp e
    rw [intsD_map e1]; rfl
  | .non :: _, _, e => by cases e
  | .bl _ :: _, _, e => by cases e
  | .str _ :: _, _, e => by cases e
  | .tup _ :: _, _, e => by cases e
  | .ref _ :: _, _, e => by cases e
theorem intsD_of : ∀ (ns : List Int), intsD (ns.map D.int) = some ns
  | [] => rfl
  | n :: ns => by rw [List.map_cons]; unfold intsD; rw [intsD_of ns]; rfl
theorem intV_of {K : PySem.W.Frag} {ι : List Addr} {H : Hp} : ∀ {ns : List Int} {vs : List V}, RepL K ι H (ns.map D.int) vs → vs = ns.map V.int
  | [], _, h => h
  | n :: ns, _, h => by
    obtain ⟨v, r, rfl, h1, h2⟩ := h
    cases h1
    rw [intV_of h2]; rfl
def lsN : Option (List Int) → Sto → R D
  | some ns, S => if ns.Nodup ∧ ns.length ≤ 4000 then .ok (.int (ns.length : Nat)) S else .no
  | none, _ => .no
def lsO : Option O → Sto → R D
  | some (.lst _ xs), S => lsN (intsD xs) S
  | _, _ => .no
def lsK : D → Sto → R D := fun x S => match x with
  | .ref i => lsO S[i]? S
  | _ => .no
def dLS (a : Den) : Den := fun lv ρ S => (a lv ρ S).bind lsK
section
variable {X : Cx} {EX : EXT} {lv : Lv} {tabs : List Addr} {a : Expr} {da : Den} {p p2 q pos : Pos}
end
end Dv

namespace Dv
open PySem PySem.Spec PyProof.Rows L2 Gr
/-- sorted of a list of ints -/
def srtIR : Option (List Int) → Bool → Sto → R D
  | some ns, true, S => if ns.length ≤ mx then .ok (.ref S.length) (S ++ [.lst true ((srtI ns).map D.int)]) else .no
  | _, _, _ => .no
def sortID : OpN
  | [d], S => srtIR ((itemsD d S).bind intsD) (isRf d) S
  | _, _ => .no
theorem crd_sortI {X : Cx} {tabs : List Addr} : CallR X (.builtin "sorted") (rCl ⟨X.K, tabs⟩ sortID) := by
  rintro pins s σ H xs us Q I rx ⟨S, ι, ds, hs, r, hw⟩
  unfold sortID at hw
  split at hw
  · rename_i d
    obtain ⟨v, rfl, q⟩ := repl1 r
    cases e : itemsD d S with
    | none => rw [e] at hw; exact hw.elim
    | some ys =>
      rw [e] at hw
      cases e3 : intsD ys with
      | none => simp only [Option.bind_some, e3] at hw; exact hw.elim
      | some ns =>
        simp only [Option.bind_some, e3] at hw
        obtain ⟨a, vs, rfl, l, ho⟩ := itemsD_v hs e q
        rcases ho with ⟨zs, rfl, _⟩ | ⟨i, b, rfl, e0, hq⟩
        · exact hw.elim
        simp only [isRf, srtIR] at hw
        split at hw
        · rename_i hl
          have hx := intsD_map e3
          subst hx
          have ev : vs = ns.map V.int := intV_of l
          subst ev
          refine cr_sortedI pins s σ H _ us Q I rx ⟨a, ns, rfl, hq, fun ys p hp hle hn => ?_⟩
          have e : ys = srtI ns := le_uniq hle srtI_le (hp.trans srtI_perm.symm)
          subst e
          obtain ⟨s2, l2, r2⟩ := new_lst (w := ⟨X.K, tabs⟩) hs hn (ints_rep (srtI ns))
          exact hw _ _ _ l2 s2 r2
        · exact hw.elim
  · exact hw.elim
section
variable {X : Cx} {tabs : List Addr} {EX : EXT} {lv : Lv} {ra : DenA} {e : Expr} {es : List Expr} {p pos : Pos}
theorem xsortI (hm : X.mg "sorted" = none) (ha : PA X (e :: es) (semA ⟨X.K, tabs⟩ EX lv ra)) (hg : Gl X "sorted" := by rfl) (he : starEach (e :: es) X.env = (false, eval e X.env) :: starEach es X.env := by rfl) (hpl : (backTo pos (starEach es X.env)).any (·.1) = false := by rfl) :
    PE X (.Call (.Name "sorted" p) (e :: es) [] pos) (semE ⟨X.K, tabs⟩ EX lv (dCl sortID ra)) := pd_callB crd_sortI hg hm bi_sorted ha (by decide) (by decide) he hpl
end
theorem sortI_r {S : Sto} {i : Nat} {b : Bool} {ns : List Int} (h : S[i]? = some (.lst b (ns.map D.int))) (hl : ns.length ≤ mx) : sortID [.ref i] S = .ok (.ref S.length) (S ++ [.lst true ((srtI ns).map D.int)]) := by
  unfold sortID itemsD
  simp only [h, Option.bind_some, intsD_of, isRf, srtIR]
  rw [if_pos hl]
end Dv

namespace Dv
open PySem PySem.Spec PyProof.Rows L2 Gr
/-! ### sum of ints, in a tuple or in a list -/
def sumR : Option (List Int) → Sto → R D
  | some ns, S => .ok (.int ns.sum) S
  | none, _ => .no
def sumD : OpN
  | [d], S => sumR ((itemsD d S).bind intsD) S
  | _, _ => .no
theorem crd_sum {X : Cx} {tabs : List Addr} (hc : X.calm = true) : CallR X (.builtin "sum") (rCl ⟨X.K, tabs⟩ sumD) := by
  rintro pins s σ H xs us Q I rx ⟨S, ι, ds, hs, r, hw⟩
  unfold sumD at hw
  split at hw
  · rename_i d
    obtain ⟨v, rfl, q⟩ := repl1 r
    cases e : itemsD d S with
    | none => rw [e] at hw; exact hw.elim
    | some ys =>
      rw [e] at hw
      cases e3 : intsD ys with
      | none => simp only [Option.bind_some, e3] at hw; exact hw.elim
      | some ns =>
        simp only [Option.bind_some, e3, sumR] at hw
        have hx := intsD_map e3
        subst hx
        obtain ⟨a, vs, rfl, l, ho⟩ := itemsD_v hs e q
        have ev : vs = ns.map V.int := intV_of l
        subst ev
        have hw' : Q (.int ns.sum) H := PV.now hw hs rfl
        rcases ho with ⟨zs, rfl, hq⟩ | ⟨i, b, rfl, e0, hq⟩
        · obtain ⟨its, rv, ht, _⟩ := I.tuple hq.t
          rw [Vals.ref1 rx]
          obtain ⟨xs, hx⟩ := rv.ints.allInts.items
          have hn : numsOf its.toArray.toList = ns := by rw [show its.toArray.toList = its from rfl, rv.ints.numsOf]
          have ht2 : s.heap.IsTuple a its.toArray := ht
          rw [hx] at ht2
          rw [show its.toArray.toList = its from rfl] at hn
          have hn2 : numsOf (intItems xs).toList = ns := by rw [← hx]; exact hn
          rw [nums_intItems] at hn2
          refine PySem.W.ktm_sumG (I.ok.hd hc) ht2 fun h' tk t' hk => ?_
          rw [preSum_eq, List.take_of_length_le (by simp), hn2]
          exact ⟨.int _, H, I.kept hk, ⟨_, rfl⟩, hw'⟩
        · exact cr_sum hc pins s σ H _ us Q I rx ⟨a, ns, rfl, hq, hw'⟩
  · exact hw.elim
section
variable {X : Cx} {tabs : List Addr} {EX : EXT} {lv : Lv} {ra : DenA} {e : Expr} {es : List Expr} {p pos : Pos}
theorem xsum (hm : X.mg "sum" = none) (ha : PA X (e :: es) (semA ⟨X.K, tabs⟩ EX lv ra)) (hg : Gl X "sum" := by rfl) (hc : X.calm = true := by rfl) (he : starEach (e :: es) X.env = (false, eval e X.env) :: starEach es X.env := by rfl) (hpl : (backTo pos (starEach es X.env)).any (·.1) = false := by rfl) :
    PE X (.Call (.Name "sum" p) (e :: es) [] pos) (semE ⟨X.K, tabs⟩ EX lv (dCl sumD ra)) := pd_callB (crd_sum hc) hg hm bi_sum ha (by decide) (by decide) he hpl
end
@[simp] theorem sum_t2 {S : Sto} {i j : Int} : sumD [.tup [.int i, .int j]] S = .ok (.int (i + j)) S := by
  unfold sumD itemsD
  simp only [Option.bind_some, intsD, Option.map_some, sumR]
  simp [List.sum]
/-! ### d.setdefault(k, v) -/
def sdO (i : Nat) (z : D) (k : Key) : Option O → Sto → R D
  | some (.dk kvs), S => if kvs.length ≤ mx then (match valK kvs k with
    | some v => .ok v S
    | none => .ok z (S.set i (.dk (setK kvs k z)))) else .no
  | _, _ => .no
def sdK3 (x y : D) : D → Sto → R D := fun z S => match x, kyD y with
  | .ref i, some k => sdO i z k S[i]? S
  | _, _ => .no
def sdK2 (x : D) (v : Den) (lv : Lv) (ρ : Env) : D → Sto → R D := fun y S => (v lv ρ S).bind (sdK3 x y)
def sdK1 (k v : Den) (lv : Lv) (ρ : Env) : D → Sto → R D := fun x S => if (dkD x S).isSome = true then (k lv ρ S).bind (sdK2 x v lv ρ) else .no
def dSd (o k v : Den) : Den := fun lv ρ S => (o lv ρ S).bind (sdK1 k v lv ρ)
section
variable {X : Cx} {EX : EXT} {lv : Lv} {tabs : List Addr} {o e f : Expr} {da db dc : Den} {apos cpos : Pos}
theorem xsetd (ha : PE X o (semE ⟨X.K, tabs⟩ EX lv da)) (hb : PE X e (semE ⟨X.K, tabs⟩ EX lv db)) (hv : PE X f (semE ⟨X.K, tabs⟩ EX lv dc))
    (h1 : attributeBase o "setdefault" X.env (eval o X.env) = eval o X.env := by rfl)
    (h2 : ((backTo cpos (starEach [e, f] X.env)).all (fun x => !x.1) && (backToKw cpos (keywordEach [] X.env)).all (fun x => x.1.isSome) && decide (([e, f] : List Expr).length + ([] : List Keyword).length + (if ([] : List Keyword).isEmpty then 0 else 1) < 30)) = true := by rfl)
    (h3 : (apos.endLine == cpos.line) = true := by rfl) (h4 : backTo cpos (starEach [e, f] X.env) = [(false, eval e X.env), (false, eval f X.env)] := by rfl) : PE X (.Call (.Attribute o "setdefault" apos) [e, f] [] cpos) (semE ⟨X.K, tabs⟩ EX lv (dSd da db dc)) := by
  refine PE.imp (pe_dsetd ha hb hv ⟨h1, h2, h3, h4⟩) fun σ H Q h => ?_
  obtain ⟨ρ, S, ι, he, hs, hw⟩ := h
  refine stepE (Po := fun ι H => PV ⟨X.K, tabs⟩ ι H Q) he hs (fun l q => q.mono l) hw fun x S1 v H1 ι1 l1 s1 r1 e1 h1 => ?_
  unfold sdK1 at h1
  split at h1
  · rename_i c
    obtain ⟨kvs0, z1⟩ := Option.isSome_iff_exists.mp c
    obtain ⟨i, p, ws0, rfl, rfl, q1, q2, q3, q4, q5⟩ := dk_at s1 z1 r1
    refine ⟨p, rfl, .inl ⟨ws0, .inl q3⟩, ?_⟩
    refine stepE (Po := fun ι H => PV ⟨X.K, tabs⟩ ι H Q) e1 s1 (fun l q => q.mono l) h1 fun y S2 u H2 ι2 l2 s2 r2 e2 h2 => ?_
    refine stepE (Po := fun ι H => PV ⟨X.K, tabs⟩ ι H Q) e2 s2 (fun l q => q.mono l) h2 fun z S3 t H3 ι3 l3 s3 r3 e3 h3 => ?_
    unfold sdK3 at h3
    split at h3
    · rename_i i' k ei ek
      cases ei
      have r1' : Rep X.K ι3 H3 (.ref i) (.ref p) := Rep.mono (l2.trans l3) _ _ r1
      cases e5 : S3[i]? with
      | none => rw [e5] at h3; exact h3.elim
      | some ob =>
        rw [e5] at h3
        cases ob with
        | lst b xs => exact h3.elim
        | dk kvs =>
          simp only [sdO] at h3
          split at h3
          · rename_i hl
            obtain ⟨a, ea, hA⟩ := r1'
            cases ea
            obtain ⟨ws, k1, k2, k3⟩ := s3.obj i _ p e5 hA
            have hlw : ws.length < sizeLine := by
              have z : kvs.length = ws.length := by simpa using congrArg List.length k2
              have := sizeLine_eq
              rw [← z]; exact Nat.lt_of_le_of_lt hl (by decide)
            obtain ⟨w1, w2⟩ := val_rep (k := k) k2 k3
            refine ⟨ws, k, k1, key_v ek (Rep.mono l3 _ _ r2), hlw, fun v' hv' => ?_, fun hn => ?_⟩
            · cases c2 : valK kvs k with
              | none => rw [w2 c2] at hv'; cases hv'
              | some d =>
                rw [c2] at h3
                obtain ⟨v2, e6, r6⟩ := w1 d c2
                rw [e6] at hv'
                cases hv'
                exact PV.now h3 s3 r6
            · cases c2 : valK kvs k with
              | some d =>
                obtain ⟨v2, e6, r6⟩ := w1 d c2
                rw [e6] at hn; cases hn
              | none =>
                rw [c2] at h3
                have lA : Le ι3 H3 ι3 (upd H3 p (.dK (putK ws k t))) := ⟨fun _ _ z => z, fun b vs z => by
                  rw [upd_ne (fun q => by rw [q, k1] at z; cases z)]; exact z, fun b o u z => by
                  rw [upd_ne (fun q => by rw [q, k1] at z; cases z)]; exact z⟩
                obtain ⟨g1, g2⟩ := put_rep (k := k) (Rep.mono lA z t r3) k2 (RepL.mono lA _ _ k3)
                obtain ⟨s4, l4⟩ := s3.put (u := .dK (putK ws k t)) (o' := .dk (setK kvs k z)) e5 hA rfl rfl ⟨_, upd_same, g1, g2⟩
                exact h3 _ _ ι3 l4 s4 (Rep.mono l4 _ _ r3)
          · exact h3.elim
    · exact h3.elim
  · exact h1.elim
end
section
variable {lv : Lv} {ρ : Env} {S : Sto} {a k v : Den} {x y z : D}
@[simp] theorem ev_sd : dSd a k v lv ρ S = (a lv ρ S).bind (sdK1 k v lv ρ) := id rfl
@[simp] theorem sdK1_ap : sdK1 k v lv ρ x S = if (dkD x S).isSome = true then (k lv ρ S).bind (sdK2 x v lv ρ) else .no := id rfl
@[simp] theorem sdK2_ap : sdK2 x v lv ρ y S = (v lv ρ S).bind (sdK3 x y) := id rfl
@[simp] theorem sdK3_i {i : Nat} {j : Int} : sdK3 (.ref i) (.int j) z S = sdO i z (.inl j) S[i]? S := id rfl
end
end Dv

/-! ### list(zip(a, b)), two lists -/
namespace Zl
open PySem PySem.Spec PyProof.Rows L2 PySem.W
theorem no_len : typeLookup (.type "zip") "__len__" = pure none := am_miss_of_fast (by decide +kernel)
theorem no_hint : typeLookup (.type "zip") "__length_hint__" = pure none := am_miss_of_fast (by decide +kernel)
/-- where the zip stands ahead of turn j -/
def ZSt (h : Heap) (z TI TO i1 i2 a b : Addr) (j : Nat) : Prop := IsPair h TI (.ref i1) (.ref i2) ∧ h.IsListIter i1 a j ∧ h.IsListIter i2 b j ∧
  ((IsZip h z TI TO .none ∧ ∃ u v, IsPair h TO u v) ∨ ∃ T f oT, IsZipHeld h z TI TO T f ∧ h.get? T = some oT ∧ (∃ oO, h.get? TO = some oO) ∧ T ≠ z ∧ T ≠ TO ∧ T ≠ i1 ∧ T ≠ i2)
theorem ZSt.at {h h' : Heap} {z TI TO i1 i2 a b : Addr} {j : Nat} {L : Addr} (st : ZSt h z TI TO i1 i2 a b j) (n : L ≠ z ∧ L ≠ TI ∧ L ≠ TO ∧ L ≠ i1 ∧ L ≠ i2) (hk : ∀ c o, c ≠ L → h.get? c = some o → h'.get? c = some o)
    (ho : ∀ o, h.get? L = some o → ∃ o', h'.get? L = some o') : ZSt h' z TI TO i1 i2 a b j := by
  obtain ⟨n1, n2, n3, n4, n5⟩ := n
  obtain ⟨p, q1, q2, w⟩ := st
  refine ⟨hk _ _ (Ne.symm n2) p, q1.at fun o e => hk _ o (Ne.symm n4) e, q2.at fun o e => hk _ o (Ne.symm n5) e, ?_⟩
  rcases w with ⟨w1, u, v, w2⟩ | ⟨T, f, oT, w1, w2, w3⟩
  · exact .inl ⟨hk _ _ (Ne.symm n1) w1, u, v, hk _ _ (Ne.symm n3) w2⟩
  · obtain ⟨⟨oO, w4⟩, w3⟩ := w3
    by_cases e : T = L
    · subst e
      obtain ⟨o', e'⟩ := ho _ w2
      exact .inr ⟨T, f, o', hk _ _ (Ne.symm n1) w1, e', ⟨oO, hk _ _ (Ne.symm n3) w4⟩, w3⟩
    · exact .inr ⟨T, f, oT, hk _ _ (Ne.symm n1) w1, hk _ _ e w2, ⟨oO, hk _ _ (Ne.symm n3) w4⟩, w3⟩
section
variable {X : Cx} {pins : List (Addr × Obj)} {σ : L2.St}
theorem loop {Q : VK} (hc : X.calm = true) {z TI TO i1 i2 a b L : Addr} (D : ZipApart z TI TO i1 i2 a b) (nL : L ≠ z ∧ L ≠ TI ∧ L ≠ TO ∧ L ≠ i1 ∧ L ≠ i2) {xs ys : List V} {n : Nat} (hn : n = min xs.length ys.length) (hl : n ≤ sizeLine) {Z : Nat → Hp → Prop}
    (hZ : ∀ j H, Z j H → SqL X.K H a xs ∧ SqL X.K H b ys ∧ ∃ rs, H L = some (.lst rs) ∧ rs.length = j)
    (hstep : ∀ j H T x y rs, Z j H → xs[j]? = some x → ys[j]? = some y → H T = none → H L = some (.lst rs) → ∀ us, Z (j + 1) (upd (upd H T (Fz.fz us [x, y])) L (.lst (rs ++ [.ref T]))))
    (hfin : ∀ H, Z n H → Q (.ref L) H) :
    ∀ (k j : Nat) (s : Shared) (H : Hp), n - j = k → j ≤ n → Inv X pins σ H s → Z j H → ZSt s.heap z TI TO i1 i2 a b j → (∀ c ∈ [z, TI, TO, i1, i2], FpOk X pins H c) →
      codeAny (model X.prog X.w) X.A.in1 (.builtin "list.extend.loop" ⟨[.ref L, .ref z, .none], []⟩) (wants (fun r s2 => r = .none ∧ EP X pins σ Q (.ref L) s2) X.xe) s := by
  intro k
  induction k with
  | zero =>
    intro j s H hk hj I zj st fp
    have jn : j = n := by omega
    subst jn
    obtain ⟨sa, sb, rs, hL, lr⟩ := hZ _ _ zj
    obtain ⟨its, rv, p1, _⟩ := I.list sa
    obtain ⟨its2, rv2, p2, _⟩ := I.list sb
    have l1 := rv.length
    have l2 := rv2.length
    have en : its.toArray[j]? = none ∨ its2.toArray[j]? = none := by
      rcases Nat.le_total xs.length ys.length with q | q
      · exact .inl (by simp; omega)
      · exact .inr (by simp; omega)
    obtain ⟨pI, q1, q2, w⟩ := st
    refine codeAny_builtin F.entry_extend_loop ?_ -- zl53
    rw [Around.under_plainId F.plain_extend_loop]
    have don : ∀ h' : Heap, (∀ c o, c ∉ [z, TI, TO, i1, i2] → s.heap.get? c = some o → h'.get? c = some o) → EP X pins σ Q (.ref L) { s with heap := h' } := fun h' hk' => ⟨.ref L, H, I.turnedL (t' := s.toks) (ch := [z, TI, TO, i1, i2]) hk' fp, rfl, hfin H zj⟩
    show wpAny _ X.A.in1.in1 (pyNext (Value.ref z) >>= _) _ _ _
    rcases w with ⟨w1, u, v, w2⟩ | ⟨T, f, oT, w1, w2, w3⟩
    · refine wpAny_bind (wpAny_pyNext_zip_end (I.ok.hd hc) D w1 pI w2 q1 q2 p1.isList p2.isList en fun h' hk' => ?_)
      exact wpAny_pure ⟨rfl, don h' fun c o hc' e => hk' c o (fun q => hc' (by simp [q])) (fun q => hc' (by simp [q])) (fun q => hc' (by simp [q])) (fun q => hc' (by simp [q])) e⟩
    · refine wpAny_bind (wpAny_pyNext_zip_end_held (I.ok.hd hc) D w1 w2 pI q1 q2 p1.isList p2.isList en fun h' hk' => ?_)
      exact wpAny_pure ⟨rfl, don h' fun c o hc' e => hk' c o (fun q => hc' (by simp [q])) (fun q => hc' (by simp [q])) (fun q => hc' (by simp [q])) e⟩
  | succ k ih =>
    intro j s H hk hj I zj st fp
    have jl : j < n := by omega
    obtain ⟨sa, sb, rs, hL, lr⟩ := hZ _ _ zj
    obtain ⟨its, rv, p1, _⟩ := I.list sa
    obtain ⟨its2, rv2, p2, _⟩ := I.list sb
    have jx : j < xs.length := by omega
    have jy : j < ys.length := by omega
    have hx : xs[j]? = some xs[j] := List.getElem?_eq_getElem jx
    have hy : ys[j]? = some ys[j] := List.getElem?_eq_getElem jy
    obtain ⟨u, hu, ru⟩ := rv.get hx -- zl72
    obtain ⟨u2, hu2, ru2⟩ := rv2.get hy -- zl73
    have tn : H s.heap.objs.size = none := I.hok.fresh (Nat.le_refl _)
    have nT : L ≠ s.heap.objs.size := ne_of_none hL tn
    -- behind the item: it is put to the list
    have rest : ∀ h' : Heap, IsPair h' s.heap.objs.size u u2 → ZSt h' z TI TO i1 i2 a b (j + 1) → (∀ c ∈ [z, TI, TO, i1, i2], c ≠ s.heap.objs.size) → (∀ c o, c ∉ [z, TI, TO, i1, i2] → s.heap.get? c = some o → h'.get? c = some o) →
        wpAny (model X.prog X.w) X.A.in1.in1 (updateSeq L (·.push (Value.ref s.heap.objs.size)) >>= fun _ => again (.builtin "list.extend.loop" ⟨[.ref L, .ref z, .none], []⟩))
          (fun fin s' => match fin with | .done f => wants (fun r s2 => r = .none ∧ EP X pins σ Q (.ref L) s2) X.xe (.ok f) s' | .again c' => c'.quiet = true ∧ codeAny (model X.prog X.w) X.A.in1 c' (wants (fun r s2 => r = .none ∧ EP X pins σ Q (.ref L) s2) X.xe) s')
          (fun e s' => wants (fun r s2 => r = .none ∧ EP X pins σ Q (.ref L) s2) X.xe (.error e) s') { s with heap := h' } := fun h' pT st' nn hk' => by
      have new : ObjOk X.prog X.w (upd H s.heap.objs.size (Fz.fz [u, u2] [xs[j], ys[j]])) h' s.heap.objs.size (Fz.fz [u, u2] [xs[j], ys[j]]) := ⟨pT, by show 2 ≤ sizeLine; decide, [u, u2], .cons ru (.cons ru2 .nil), ⟨_, pT, rfl, _, rfl⟩⟩
      have I1 : Inv X pins σ (upd H s.heap.objs.size (Fz.fz [u, u2] [xs[j], ys[j]])) { s with heap := h' } := I.turnedNew (t' := s.toks) (ch := [z, TI, TO, i1, i2]) hk' fp (Nat.le_refl _) new
      have hL1 : upd H s.heap.objs.size (Fz.fz [u, u2] [xs[j], ys[j]]) L = some (.lst rs) := by rw [upd_ne nT]; exact hL
      obtain ⟨zl, ls, m, rl, ob⟩ := I1.hok L _ hL1
      have rll := rl.length
      obtain ⟨m', up⟩ : ∃ m', (h'.update L (Obj.mapSeq fun x => x.push (Value.ref s.heap.objs.size))).get? L = some { cls := .type "list", dict := none, data := .seq (ls.toArray.push (Value.ref s.heap.objs.size)) m', slots := #[] } := ⟨_, Heap.get?_update_self _ ob rfl⟩
      have ot : ∀ c o, c ≠ L → h'.get? c = some o → (h'.update L (Obj.mapSeq fun x => x.push (Value.ref s.heap.objs.size))).get? c = some o := fun c o ne e => (Heap.get?_update_other _ _ (Ne.symm ne)).trans e
      have rT : RelV (V.ref s.heap.objs.size) (Value.ref s.heap.objs.size) := rfl
      have new2 : ObjOk X.prog X.w (upd (upd H s.heap.objs.size (Fz.fz [u, u2] [xs[j], ys[j]])) L (.lst (rs ++ [.ref s.heap.objs.size]))) (h'.update L (Obj.mapSeq fun x => x.push (Value.ref s.heap.objs.size))) L (.lst (rs ++ [.ref s.heap.objs.size])) := by
        refine ⟨by rw [List.length_append, List.length_singleton]; omega, ls ++ [.ref s.heap.objs.size], m', rl.append (.cons rT .nil), by rw [up]; simp⟩
      have I2 := I1.write (x := L) (e := L) (t' := s.toks) (by rw [hL1]; trivial) (.inl rfl) (fun c o ne e => ot c o ne e) ⟨_, up⟩ new2
      refine wpAny_bind (wpAny_updateSeq (s := { s with heap := h' }) ob rfl (wpAny_pure ⟨plainId_quiet F.plain_extend_loop _, ih (j + 1) _ _ (by omega) jl I2 (hstep j H _ _ _ rs zj hx hy tn hL _) (st'.at nL ot fun o e => ⟨_, up⟩) fun c hc' => ?_⟩) ?_ ?_)
      · obtain ⟨f1, f2⟩ := fp c hc'
        refine ⟨?_, f2⟩
        have c1 : c ≠ L := by
          obtain ⟨n1, n2, n3, n4, n5⟩ := nL
          simp only [List.mem_cons, List.not_mem_nil, or_false] at hc'
          rcases hc' with q | q | q | q | q <;> (rw [q]; exact Ne.symm (by assumption))
        rw [upd_ne c1, upd_ne (nn c hc')]
        exact f1
      · rw [List.size_toArray]; omega
      · show (ls.toArray.push (Value.ref s.heap.objs.size)).size ≤ sizeLine + 1
        rw [Array.size_push, List.size_toArray]; omega
    obtain ⟨pI, q1, q2, w⟩ := st
    have lt1 : ∀ {c o}, s.heap.get? c = some o → c ≠ s.heap.objs.size := fun e => Nat.ne_of_lt (Heap.lt_size e)
    have e1 : i1 ≠ s.heap.objs.size := let ⟨_, e, _⟩ := q1; lt1 e
    have e2 : i2 ≠ s.heap.objs.size := let ⟨_, e, _⟩ := q2; lt1 e
    refine codeAny_builtin F.entry_extend_loop ?_ -- zl108
    rw [Around.under_plainId F.plain_extend_loop]
    show wpAny _ X.A.in1.in1 (pyNext (Value.ref z) >>= _) _ _ _
    rcases w with ⟨w1, v1, v2, w2⟩ | ⟨T, f, oT, w1, w2, ⟨oO, wO⟩, w3, w4, w5, w6⟩
    · have nn : ∀ c ∈ [z, TI, TO, i1, i2], c ≠ s.heap.objs.size := fun c hc' => by
        simp only [List.mem_cons, List.not_mem_nil, or_false] at hc'
        rcases hc' with q | q | q | q | q
        · rw [q]; exact lt1 w1
        · rw [q]; exact lt1 pI
        · rw [q]; exact lt1 w2
        · rw [q]; exact e1
        · rw [q]; exact e2
      refine wpAny_bind (wpAny_pyNext_zip_item D w1 pI w2 q1 q2 p1.isList p2.isList (x := u) (y := u2) (by simpa using hu) (by simpa using hu2) fun h' a1 a2 a3 a4 a5 a6 hk' => ?_)
      refine rest h' a5 ⟨hk' _ _ D.TIz D.TITO D.TIi1 D.TIi2 pI, a3, a4, .inr ⟨s.heap.objs.size, false, _, a1, a5, ⟨_, a2⟩, (nn z (by simp)).symm, (nn TO (by simp)).symm, e1.symm, e2.symm⟩⟩ nn fun c o hc' e => hk' c o (fun q => hc' (by simp [q])) (fun q => hc' (by simp [q])) (fun q => hc' (by simp [q])) (fun q => hc' (by simp [q])) e
    · have tO : TO ≠ s.heap.objs.size := lt1 wO
      have nn : ∀ c ∈ [z, TI, TO, i1, i2], c ≠ s.heap.objs.size := fun c hc' => by
        simp only [List.mem_cons, List.not_mem_nil, or_false] at hc'
        rcases hc' with q | q | q | q | q
        · rw [q]; exact lt1 w1
        · rw [q]; exact lt1 pI
        · rw [q]; exact tO
        · rw [q]; exact e1
        · rw [q]; exact e2
      refine wpAny_bind (wpAny_pyNext_zip_item_held D w1 w2 pI q1 q2 p1.isList p2.isList (x := u) (y := u2) (by simpa using hu) (by simpa using hu2) fun h' a1 a3 a4 a5 a6 hk' => ?_)
      refine rest h' a5 ⟨hk' _ _ D.TIz D.TIi1 D.TIi2 pI, a3, a4, .inr ⟨T, true, oT, a1, hk' _ _ w3 w5 w6 w2, ⟨oO, hk' _ _ D.TOz D.TOi1 D.TOi2 wO⟩, w3, w4, w5, w6⟩⟩ nn fun c o hc' e => hk' c o (fun q => hc' (by simp [q])) (fun q => hc' (by simp [q])) (fun q => hc' (by simp [q])) e
theorem call_z {Q : VK} {H : Hp} {s : Shared} (hc : X.calm = true) {z TI TO i1 i2 a b : Addr} (D : ZipApart z TI TO i1 i2 a b) (I : Inv X pins σ H s) (st : ZSt s.heap z TI TO i1 i2 a b 0) (hw : IsZip s.heap z TI TO .none) (fp : ∀ c ∈ [z, TI, TO, i1, i2], FpOk X pins H c) (lt : ∀ c ∈ [z, TI, TO, i1, i2], c < s.heap.objs.size)
    {xs ys : List V} {n : Nat} (hn : n = min xs.length ys.length) (hl : n ≤ sizeLine) {Z : Addr → Nat → Hp → Prop} (h0 : ∀ L, H L = none → Z L 0 (upd H L (.lst [])))
    (hZ : ∀ L j H, Z L j H → SqL X.K H a xs ∧ SqL X.K H b ys ∧ ∃ rs, H L = some (.lst rs) ∧ rs.length = j)
    (hstep : ∀ L j H T x y rs, Z L j H → xs[j]? = some x → ys[j]? = some y → H T = none → H L = some (.lst rs) → ∀ us, Z L (j + 1) (upd (upd H T (Fz.fz us [x, y])) L (.lst (rs ++ [.ref T]))))
    (hfin : ∀ L H, Z L n H → Q (.ref L) H) : wpAny (model X.prog X.w) X.A (call (.type "list") [.ref z]) (EP X pins σ Q) X.xe s := by
  obtain ⟨L, eL⟩ : ∃ L, s.heap.objs.size = L := ⟨_, rfl⟩
  have nL : L ≠ z ∧ L ≠ TI ∧ L ≠ TO ∧ L ≠ i1 ∧ L ≠ i2 := by
    rw [← eL]
    exact ⟨Nat.ne_of_gt (lt z (by simp)), Nat.ne_of_gt (lt TI (by simp)), Nat.ne_of_gt (lt TO (by simp)), Nat.ne_of_gt (lt i1 (by simp)), Nat.ne_of_gt (lt i2 (by simp))⟩
  refine callType_codes (Q₁ := fun u r => u = .ref L ∧ r = { s with heap := s.heap.push { cls := .type "list", data := .seq #[] } }) F.called_list (F.typeCall_list_1 _) F.entry_list_init (code_list_new _ ⟨by rw [eL], rfl⟩) fun u r hr => ?_
  obtain ⟨rfl, rfl⟩ := hr
  have g0 : (s.heap.push { cls := .type "list", data := .seq #[] }).get? L = some { cls := .type "list", data := .seq #[] } := by rw [← eL]; exact Heap.get?_push_size _ rfl
  have k0 : ∀ c o, s.heap.get? c = some o → (s.heap.push { cls := .type "list", data := .seq #[] }).get? c = some o := fun c o e => Heap.get?_push_of_some _ e
  generalize s.heap.push { cls := .type "list", data := .seq #[] } = h1 at g0 k0 ⊢
  refine ⟨⟨_, g0, rfl⟩, F.args_list_init_2 _ _, ?_⟩
  show wpAny _ X.A.in1.in1 (do let q ← Builtin.List.listItems (.ref L); Builtin.List.listUpdate (.ref L) (fun _ => #[]); letGo q.toList.reverse; Builtin.List.listExtendWith (.ref L) (.ref z) .none) _ _ _
  refine wpAny_bind (m := Builtin.List.listItems (.ref L)) ?_
  refine wpAny_bind (wpAny_seqItems g0 rfl (wpAny_pure ?_))
  show wpAny _ X.A.in1.in1 (updateSeq L (fun _ => #[]) >>= fun _ => letGo ([] : List Value) >>= fun _ => Builtin.List.listExtendWith (.ref L) (.ref z) .none) _ _ _
  refine wpAny_bind (wpAny_updateSeq g0 rfl ?_)
  have g1 := Heap.get?_update_self (Obj.mapSeq (fun _ => (#[] : Array Value))) g0 rfl
  have k1 : ∀ c o, c ≠ L → h1.get? c = some o → (h1.update L (Obj.mapSeq (fun _ => (#[] : Array Value)))).get? c = some o := fun c o ne e => (Heap.get?_update_other _ _ (Ne.symm ne)).trans e
  generalize h1.update L (Obj.mapSeq (fun _ => (#[] : Array Value))) = h2 at g1 k1 ⊢
  refine wpAny_bind (wpAny_letGo ?_) -- zl156
  have hw2 : IsZip h2 z TI TO .none := k1 _ _ (Ne.symm nL.1) (k0 _ _ hw)
  have ty : ({ s with heap := h2 } : Shared).TypeIs (.ref z) "zip" := ⟨_, hw2, rfl⟩
  unfold Builtin.List.listExtendWith -- zl159
  refine wpAny_bind (wpAny_typeOf ty ?_)
  have b1 : Builtin.List.listSameRef (.ref L) (.ref z) = false := by simp [Builtin.List.listSameRef, nL.1]
  simp only [b1, show (Value.type "zip" == Value.type "list") = false by decide, show (Value.type "zip" == Value.type "tuple") = false by decide, Bool.or_false, Bool.false_eq_true, if_false]
  refine wpAny_bind (wpAny_pyIter_zip hw2 ?_)
  refine wpAny_bind (wpAny_holding ?_) -- zl164
  unfold Builtin.List.listLengthHint -- zl165
  refine wpAny_bind (wpAny_specialOf ty no_len ?_)
  show wpAny _ X.A.in1.in1 (specialOf (Value.ref z) (Str.ofString "__length_hint__") >>= _) _ _ _
  refine wpAny_bind (wpAny_specialOf ty no_hint (wpAny_pure ?_))
  show wpAny _ X.A.in1.in1 (rule "list.extend.makes-room" >>= fun _ => Builtin.List.listTouch (.ref L) >>= fun _ => again (.builtin "list.extend.loop" ⟨[.ref L, .ref z, .none], []⟩)) _ _ _
  refine wpAny_bind (wpAny_rule (wpAny_bind ?_)) -- zl170
  show wpAny _ X.A.in1.in1 (updateSeq L (·.push .none) >>= fun _ => updateSeq L (·.pop)) _ _ _
  refine wpAny_bind (wpAny_updateSeq g1 rfl ?_)
  have g2 := Heap.get?_update_self (Obj.mapSeq (·.push Value.none)) g1 rfl
  refine wpAny_updateSeq (hz := by seq_fits) g2 rfl ?_
  have g3 := Heap.get?_update_self (Obj.mapSeq (·.pop)) g2 rfl
  have k3 : ∀ c o, c ≠ L → h2.get? c = some o → ((h2.update L (Obj.mapSeq (·.push Value.none))).update L (Obj.mapSeq (·.pop))).get? c = some o := fun c o ne e => (Heap.get?_update_other _ _ (Ne.symm ne)).trans ((Heap.get?_update_other _ _ (Ne.symm ne)).trans e)
  generalize (h2.update L (Obj.mapSeq (·.push Value.none))).update L (Obj.mapSeq (·.pop)) = h3 at g3 k3 ⊢
  have kk : ∀ c o, s.heap.get? c = some o → h3.get? c = some o := fun c o e => by
    have ne : c ≠ L := by rw [← eL]; exact Nat.ne_of_lt (Heap.lt_size e)
    exact k3 _ _ ne (k1 _ _ ne (k0 _ _ e))
  have I3 : Inv X pins σ (upd H L (.lst [])) { s with heap := h3, toks := s.toks } := I.laid kk (by rw [eL]; exact Nat.le_refl _) ⟨by show 0 ≤ sizeLine; omega, [], _, .nil, g3⟩
  refine wpAny_pure ⟨plainId_quiet F.plain_extend_loop _, loop hc D nL hn hl (hZ L) (hstep L) (hfin L) n 0 { s with heap := h3 } _ (by omega) (by omega) I3 (h0 L (I.hok.fresh (by rw [eL]; exact Nat.le_refl _))) ?_ fun c hc' => ?_⟩
  · obtain ⟨pI, q1, q2, w⟩ := st
    refine ⟨kk _ _ pI, q1.at fun o e => kk _ o e, q2.at fun o e => kk _ o e, ?_⟩
    rcases w with ⟨w1, u, v, w2⟩ | ⟨T, f, oT, w1, w2, ⟨oO, w4⟩, w3⟩
    · exact .inl ⟨kk _ _ w1, u, v, kk _ _ w2⟩
    · exact .inr ⟨T, f, oT, kk _ _ w1, kk _ _ w2, ⟨oO, kk _ _ w4⟩, w3⟩
  · obtain ⟨f1, f2⟩ := fp c hc'
    refine ⟨?_, f2⟩
    have : c ≠ L := by rw [← eL]; exact Nat.ne_of_lt (lt c hc')
    rw [upd_ne this]; exact f1
/-- list(zip(a, b)) -/
def tLZ (K : PySem.W.Frag) (ta : TA) : TE := fun σ H Q => ta σ H fun vs H1 => ∃ a b xs ys, vs = [V.ref a, .ref b] ∧ SqL K H1 a xs ∧ SqL K H1 b ys ∧ min xs.length ys.length ≤ sizeLine ∧ ∃ Z : Addr → Nat → Hp → Prop, (∀ L, H1 L = none → Z L 0 (upd H1 L (.lst []))) ∧
  (∀ L j H, Z L j H → SqL K H a xs ∧ SqL K H b ys ∧ ∃ rs, H L = some (.lst rs) ∧ rs.length = j) ∧
  (∀ L j H T x y rs, Z L j H → xs[j]? = some x → ys[j]? = some y → H T = none → H L = some (.lst rs) → ∀ us, Z L (j + 1) (upd (upd H T (Fz.fz us [x, y])) L (.lst (rs ++ [.ref T])))) ∧ ∀ L H, Z L (min xs.length ys.length) H → Q (.ref L) H
theorem pe_lz {e e2 : Expr} {ta : TA} {p q pos zpos : Pos} (hc : X.calm = true) (hg : Gl X "list") (hm : X.mg "list" = none) (hg2 : Gl X "zip") (hm2 : X.mg "zip" = none) (ha : PA X [e, e2] ta)
    (hs : starEach [e, e2] X.env = (false, eval e X.env) :: starEach [e2] X.env) (hpl : (backTo zpos (starEach [e2] X.env)).any (·.1) = false)
    (na : starEach [Expr.Call (.Name "zip" q) [e, e2] [] zpos] X.env = (false, eval (Expr.Call (.Name "zip" q) [e, e2] [] zpos) X.env) :: starEach [] X.env)
    (hev : eval (.Call (.Name "zip" q) [e, e2] [] zpos) X.env = (do callWith zpos (← eval (.Name "zip" q) X.env) [] (backTo zpos (starEach [e, e2] X.env)) (backToKw zpos (keywordEach [] X.env)))) :
    PE X (.Call (.Name "list" p) [.Call (.Name "zip" q) [e, e2] [] zpos] [] pos) (tLZ X.K ta) := by
  refine ⟨fun pins s σ H Q I h => ?_⟩ -- zl201
  refine Call_ (ld_blt I hg hm boot_list (PyProof.Rows.callWith_type1 (args_cons ?_ na) na))
  refine Call_ (ld_blt I hg2 hm2 PyProof.Rows.boot_zip (PyProof.Rows.callWith_type1 (thn (ha.run zpos pins s σ H _ I h) fun us s1 ⟨vs, H1, I1, r1, q1⟩ => ?_) hs hpl)) hev
  obtain ⟨a, b, xs, ys, ex, sa, sb, hl, Z, h0, hZ, hstep, hfin⟩ := q1
  subst ex
  cases r1 with
  | cons r rr =>
    cases rr with
    | cons r' rr =>
      cases rr; cases r; cases r'
      obtain ⟨its, rv, p1, _⟩ := I1.list sa
      obtain ⟨its2, rv2, p2, _⟩ := I1.list sb
      refine call_zip_2 p1.isList p2.isList fun h' hz hTI hTO g1 g2 hsz hk => args_nil ?_
      have I2 : Inv X pins σ H1 { s1 with heap := h' } := I1.kept (t' := s1.toks) hk -- zl214
      have rng : ∀ c ∈ [s1.heap.objs.size + 4, s1.heap.objs.size + 2, s1.heap.objs.size + 3, s1.heap.objs.size, s1.heap.objs.size + 1], s1.heap.objs.size ≤ c ∧ c < h'.objs.size := fun c hcm => by
        rw [hsz]
        simp only [List.mem_cons, List.not_mem_nil, or_false] at hcm
        have five : ∀ m : Nat, m ≤ m + 4 ∧ m + 4 < m + 5 ∧ m ≤ m + 2 ∧ m + 2 < m + 5 ∧ m ≤ m + 3 ∧ m + 3 < m + 5 ∧ m < m + 5 ∧ m ≤ m + 1 ∧ m + 1 < m + 5 := fun m => by omega
        obtain ⟨f1, f2, f3, f4, f5, f6, f7, f8, f9⟩ := five s1.heap.objs.size
        rcases hcm with w | w | w | w | w <;> rw [w]
        · exact ⟨f1, f2⟩
        · exact ⟨f3, f4⟩
        · exact ⟨f5, f6⟩
        · exact ⟨Nat.le_refl _, f7⟩
        · exact ⟨f8, f9⟩
      exact call_z hc (PySem.W.ktu_apart s1.heap.objs.size a b p1.lt p2.lt) I2 ⟨hTI, g1, g2, .inl ⟨hz, _, _, hTO⟩⟩ hz (fun c hcm => I1.fpOk (rng c hcm).1 (I1.hok.fresh (rng c hcm).1)) (fun c hcm => (rng c hcm).2) rfl hl h0 hZ hstep hfin
end
end Zl
namespace Dv
open PySem PySem.Spec PyProof.Rows L2 Gr
def lzO : Option O → Option O → Sto → R D
  | some (.lst _ xs), some (.lst _ ys), S => if xs.length ≤ mx then .ok (.ref S.length) (S ++ [.lst true ((xs.zip ys).map pr2)]) else .no
  | _, _, _ => .no
def lzK : List D → Sto → R D
  | [.ref i, .ref j], S => lzO S[i]? S[j]? S
  | _, _ => .no
def dLZ (a : DenA) : Den := fun lv ρ S => (a lv ρ S).bind lzK
@[simp] theorem ev_lz {a : DenA} {lv : Lv} {ρ : Env} {S : Sto} : dLZ a lv ρ S = (a lv ρ S).bind lzK := id rfl
@[simp] theorem lzK_rr {i j : Nat} {S : Sto} : lzK [.ref i, .ref j] S = lzO S[i]? S[j]? S := id rfl
@[simp] theorem lzO_ll {a b : Bool} {xs ys : List D} {S : Sto} : lzO (some (.lst a xs)) (some (.lst b ys)) S = if xs.length ≤ mx then .ok (.ref S.length) (S ++ [.lst true ((xs.zip ys).map pr2)]) else .no := id rfl
theorem sq_keep {K : PySem.W.Frag} {H H' : Hp} {a : Addr} {vs : List V} (h : SqL K H a vs) (k : ∀ c o, H c = some o → H' c = some o) : SqL K H' a vs := by
  rcases h with (h | ⟨o, h⟩) | h -- zl242
  · exact .inl (.inl (k _ _ h))
  · exact .inl (.inr ⟨o, k _ _ h⟩)
  · exact .inr h
theorem RepL.back {K : PySem.W.Frag} {ι : List Addr} {H : Hp} {ds : List D} {vs : List V} {i : Nat} {v : V} (h : RepL K ι H ds vs) (e : vs[i]? = some v) : ∃ d, ds[i]? = some d ∧ Rep K ι H d v := by
  have hi : i < ds.length := by rw [h.len]; exact (List.getElem?_eq_some_iff.mp e).1
  obtain ⟨u, e1, r⟩ := h.get (List.getElem?_eq_getElem hi)
  rw [e] at e1
  cases e1
  exact ⟨_, List.getElem?_eq_getElem hi, r⟩
theorem get_last {α : Type} {l : List α} {x : α} {n : Nat} (h : n = l.length) : (l ++ [x])[n]? = some x := by subst h; simp
section
variable {X : Cx} {tabs : List Addr} {EX : EXT} {lv : Lv} {ra : DenA} {e e2 : Expr} {p q pos zpos : Pos}
theorem xlz (hm : X.mg "list" = none) (hm2 : X.mg "zip" = none) (ha : PA X [e, e2] (semA ⟨X.K, tabs⟩ EX lv ra)) (hg : Gl X "list" := by rfl) (hg2 : Gl X "zip" := by rfl) (hc : X.calm = true := by rfl)
    (hs : starEach [e, e2] X.env = (false, eval e X.env) :: starEach [e2] X.env := by rfl) (hpl : (backTo zpos (starEach [e2] X.env)).any (·.1) = false := by rfl)
    (na : starEach [Expr.Call (.Name "zip" q) [e, e2] [] zpos] X.env = (false, eval (Expr.Call (.Name "zip" q) [e, e2] [] zpos) X.env) :: starEach [] X.env := by rfl)
    (hev : eval (.Call (.Name "zip" q) [e, e2] [] zpos) X.env = (do callWith zpos (← eval (.Name "zip" q) X.env) [] (backTo zpos (starEach [e, e2] X.env)) (backToKw zpos (keywordEach [] X.env))) := by rfl) :
    PE X (.Call (.Name "list" p) [.Call (.Name "zip" q) [e, e2] [] zpos] [] pos) (semE ⟨X.K, tabs⟩ EX lv (dLZ ra)) := by
  refine PE.imp (Zl.pe_lz hc hg hm hg2 hm2 ha hs hpl na hev) fun σ H Q h => ?_
  obtain ⟨ρ, S, ι, he, hs, hw⟩ := h
  refine stepA (Po := fun ι H => PV ⟨X.K, tabs⟩ ι H Q) he hs (fun l q => q.mono l) hw fun xs S1 vs H1 ι1 l1 s1 r1 e1 h1 => ?_
  unfold lzK at h1
  split at h1
  · rename_i i j
    cases gi : S1[i]? with
    | none => rw [gi] at h1; exact h1.elim
    | some oi =>
      cases oi with
      | dk kv => rw [gi] at h1; exact h1.elim
      | lst w1 xs =>
        cases gj : S1[j]? with
        | none => rw [gi, gj] at h1; exact h1.elim
        | some oj =>
          cases oj with
          | dk kv => rw [gi, gj] at h1; exact h1.elim
          | lst w2 ys =>
            rw [gi, gj] at h1
            simp only [lzO] at h1
            split at h1
            · rename_i hx
              obtain ⟨v, u, rfl, q1, q2⟩ := repl2 r1
              obtain ⟨a, rfl, z1⟩ := q1
              obtain ⟨b, rfl, z2⟩ := q2
              obtain ⟨a', vs, ha', y1, y2⟩ := s1.list gi
              obtain ⟨b', us, hb', y3, y4⟩ := s1.list gj
              rw [z1] at ha'
              rw [z2] at hb'
              cases ha'; cases hb'
              have lx := y2.len
              have ly := y4.len
              have mn : min vs.length us.length ≤ sizeLine := Nat.le_trans (Nat.min_le_left _ _) (by rw [← lx]; exact mx_le hx)
              refine ⟨a, b, vs, us, rfl, y1, y3, mn, fun L jj H' => SRep X.K tabs (ι1 ++ [L]) (S1 ++ [.lst true (((xs.zip ys).take jj).map pr2)]) H' ∧ Le ι1 H1 (ι1 ++ [L]) H' ∧ (∀ c o, H1 c = some o → H' c = some o) ∧ jj ≤ (xs.zip ys).length ∧ H1 L = none, fun L hL => ?_, fun L jj H' hZ => ?_, fun L jj H' T x y rs hZ hx' hy' hT hL uu => ?_, fun L H' hZ => ?_⟩
              · obtain ⟨s2, l2, _⟩ := new_lst (w := ⟨X.K, tabs⟩) (xs := []) (vs := []) s1 hL rfl
                exact ⟨by simpa using s2, l2, fun c o e => by rw [upd_ne (ne_of_none e hL)]; exact e, Nat.zero_le _, hL⟩
              · obtain ⟨s2, l2, k2, jl, hL1⟩ := hZ
                obtain ⟨rs, hrs, rr⟩ := s2.obj S1.length _ L (get_last rfl) (get_last s1.len)
                refine ⟨sq_keep y1 k2, sq_keep y3 k2, rs, hrs, ?_⟩
                rw [← rr.len, List.length_map, List.length_take]; omega
              · obtain ⟨s2, l2, k2, jl, hL1⟩ := hZ
                obtain ⟨rs', hrs, rr⟩ := s2.obj S1.length _ L (get_last rfl) (get_last s1.len)
                rw [hL] at hrs
                cases hrs
                obtain ⟨dx, ex, rx⟩ := y2.back hx'
                obtain ⟨dy, ey, ry⟩ := y4.back hy'
                have ez : (xs.zip ys)[jj]? = some (dx, dy) := by rw [List.getElem?_zip_eq_some]; exact ⟨ex, ey⟩
                have jlt : jj < (xs.zip ys).length := (List.getElem?_eq_some_iff.mp ez).1
                have tk : (xs.zip ys).take (jj + 1) = (xs.zip ys).take jj ++ [(dx, dy)] := by rw [List.take_add_one, ez]; rfl
                have LT : L ≠ T := ne_of_none hL hT
                have lT := le_upd (ι := ι1 ++ [L]) (u := Fz.fz uu [x, y]) hT
                have s3 := s2.extra (u := Fz.fz uu [x, y]) hT
                have rdx := Rep.mono (l2.trans lT) _ _ rx
                have rdy := Rep.mono (l2.trans lT) _ _ ry
                have rt : Rep X.K (ι1 ++ [L]) (upd H' T (Fz.fz uu [x, y])) (pr2 (dx, dy)) (.ref T) := ⟨T, [x, y], rfl, .inl ⟨_, upd_same, rfl, rfl⟩, ⟨x, [y], rfl, rdx, ⟨y, [], rfl, rdy, rfl⟩⟩⟩
                have lL : Le (ι1 ++ [L]) (upd H' T (Fz.fz uu [x, y])) (ι1 ++ [L]) (upd (upd H' T (Fz.fz uu [x, y])) L (.lst (rs ++ [.ref T]))) := ⟨fun _ _ z => z, fun c vs z => by
                  rw [upd_ne (fun q => by rw [q, upd_ne LT, hL] at z; cases z)]; exact z, fun c o u z => by
                  rw [upd_ne (fun q => by rw [q, upd_ne LT, hL] at z; cases z)]; exact z⟩
                obtain ⟨s4, l4⟩ := s3.put (i := S1.length) (a := L) (u := .lst (rs ++ [.ref T])) (o := .lst true (((xs.zip ys).take jj).map pr2)) (o' := .lst true (((xs.zip ys).take (jj + 1)).map pr2)) (get_last rfl) (get_last s1.len) rfl rfl ⟨_, upd_same, by
                  rw [tk, List.map_append]
                  exact RepL.app (RepL.mono (lT.trans lL) _ _ rr) (RepL.one (Rep.mono lL _ _ rt))⟩
                refine ⟨by simpa using s4, l2.trans (lT.trans l4), fun c o e => ?_, jlt, hL1⟩
                have e' := k2 c o e
                have nL : c ≠ L := ne_of_none e hL1
                rw [upd_ne nL, upd_ne (ne_of_none e' hT)]
                exact e'
              · obtain ⟨s2, l2, k2, jl, hL1⟩ := hZ
                have e : (xs.zip ys).take (min vs.length us.length) = xs.zip ys := List.take_of_length_le (by rw [List.length_zip]; omega)
                rw [e] at s2
                exact h1 (.ref L) H' _ l2 s2 ⟨L, rfl, get_last s1.len⟩
            · exact h1.elim
  · exact h1.elim
end
end Dv

/-! ### list(zip(a, b, c)), three lists; the tuples handed out stay -/
namespace Zt
open PySem PySem.Spec PyProof.Rows L2 PySem.W
section
variable {P : Program} {w : World} {A : Around} {E : Value → Shared → Prop} {s : Shared} {z TI TO T i1 i2 i3 : Addr} {g1 g2 g3 : List Addr} {n1 n2 n3 i : Nat} {P1 P2 P3 : Nat → Value → Prop} {R1 R2 R3 : Nat → Heap → Prop} {f : Bool} {oT : Obj}
theorem nextH3 {Q : Value → Shared → Prop} (S : ZipSep3 z TI TO i1 i2 i3 g1 g2 g3) (D1 : Draws P w A i1 g1 n1 P1 R1) (D2 : Draws P w A i2 g2 n2 P2 R2) (D3 : Draws P w A i3 g3 n3 P3 R3)
    (zh : IsZipHeld s.heap z TI TO T f) (th : s.heap.get? T = some oT) (ti : IsTupOf3 s.heap TI (.ref i1) (.ref i2) (.ref i3)) (r1 : R1 i s.heap) (r2 : R2 i s.heap) (r3 : R3 i s.heap) (l1 : i < n1) (l2 : i < n2) (l3 : i < n3)
    (k : ∀ x y u m tk, P1 i x → P2 i y → P3 i u → IsZipHeld m z TI TO T true → R1 (i + 1) m → R2 (i + 1) m → R3 (i + 1) m → IsTupOf3 m s.heap.objs.size x y u →
      (∀ c o, c ∉ [z, i1, i2, i3] → s.heap.get? c = some o → m.get? c = some o) → Q (.ref s.heap.objs.size) { s with heap := m, toks := tk }) :
    wpAny (model P w) A (Builtin.«zip.__next__» ⟨[.ref z], []⟩) (fun e t => ∃ v, e = .done (.ret v) ∧ Q v t) E s := by
  rcases s with ⟨h0, gl, dr, t0, os⟩
  show wpAny _ _ (field (.ref z) 2 >>= _) _ _ _
  refine wpAny_bind (wpAny_field zh rfl (x := .bool false) rfl ?_)
  show wpAny _ _ (field (.ref z) 3 >>= _) _ _ _
  refine wpAny_bind (wpAny_field zh rfl (x := .ref TI) rfl ?_)
  refine wpAny_bind (wpAny_seqItems ti rfl ?_)
  show wpAny _ _ (Builtin.SmallTypes.ownedTupleIsFree (.ref z) >>= _) _ _ _
  refine wpAny_bind (wpAny_tupleHeld_zip zh th fun m0 z0 b0 => ?_)
  simp only [Bool.false_eq_true, if_false]
  refine wpAny_bind ?_
  rw [← Array.forIn_toList]
  simp only [List.forIn_cons, List.forIn_nil]
  refine wpAny_bind (wpAny_bind (wpAny_holding ?_))
  show wpAny _ _ (Builtin.SmallTypes.nextOf (.ref i1) >>= _) _ _ ⟨m0, gl, dr, t0, os⟩
  refine wpAny_bind (D1.item i _ _ _ l1 (D1.over r1 b0 S.zf1) fun x m1 t1 px y1 b1 => wpAny_pure (wpAny_pure ?_))
  refine wpAny_bind (wpAny_bind (wpAny_holding ?_))
  show wpAny _ _ (Builtin.SmallTypes.nextOf (.ref i2) >>= _) _ _ ⟨m1, gl, dr, t1, os⟩
  refine wpAny_bind (D2.item i _ _ _ l2 (D2.over (D2.over r2 b0 S.zf2) b1 S.sep1_2) fun y m2 t2 py y2 b2 => wpAny_pure (wpAny_pure ?_))
  refine wpAny_bind (wpAny_bind (wpAny_holding ?_))
  show wpAny _ _ (Builtin.SmallTypes.nextOf (.ref i3) >>= _) _ _ ⟨m2, gl, dr, t2, os⟩
  refine wpAny_bind (D3.item i _ _ _ l3 (D3.over (D3.over (D3.over r3 b0 S.zf3) b1 S.sep1_3) b2 S.sep2_3) fun u m3 t3 pu y3 b3 => wpAny_pure (wpAny_pure (wpAny_pure ?_)))
  show wpAny _ _ (newTuple [x, y, u] >>= _) _ _ ⟨m3, gl, dr, t3, os⟩
  refine wpAny_bind (wpAny_newTuple (wpAny_pure ⟨_, rfl, ?_⟩))
  replace b0 : Heap.SameBut z h0 m0 := b0
  replace b1 : Heap.SameBut i1 m0 m1 := b1
  replace b2 : Heap.SameBut i2 m1 m2 := b2
  replace b3 : Heap.SameBut i3 m2 m3 := b3
  have sz : m3.objs.size = h0.objs.size := by rw [b3.1, b2.1, b1.1, b0.1]
  have z3 : IsZipHeld m3 z TI TO T true := b3.extBut _ _ S.zi3 (b2.extBut _ _ S.zi2 (b1.extBut _ _ S.zi1 z0))
  show Q (.ref m3.objs.size) ⟨m3.push (Fz.nt [x, y, u]), gl, dr, t3, os⟩
  have new : IsTupOf3 (m3.push (Fz.nt [x, y, u])) m3.objs.size x y u := Heap.get?_push_size _ rfl
  rw [sz] at new ⊢
  refine k x y u _ t3 px py pu (Heap.get?_push_of_some _ z3) (D1.frame _ _ _ (D1.over (D1.over y1 b2 S.sep2_1) b3 S.sep3_1) fun b _ o e => Heap.get?_push_of_some _ e) (D2.frame _ _ _ (D2.over y2 b3 S.sep3_2) fun b _ o e => Heap.get?_push_of_some _ e)
    (D3.frame _ _ _ y3 fun b _ o e => Heap.get?_push_of_some _ e) new fun c o hc e => ?_
  simp only [List.mem_cons, List.not_mem_nil, or_false, not_or] at hc
  obtain ⟨c0, c1, c2, c3⟩ := hc
  exact Heap.get?_push_of_some _ (b3.extBut _ _ c3 (b2.extBut _ _ c2 (b1.extBut _ _ c1 (b0.extBut _ _ c0 e))))
theorem overH3 {Q : Fin → Shared → Prop} (S : ZipSep3 z TI TO i1 i2 i3 g1 g2 g3) (D1 : Draws P w A i1 g1 n1 P1 R1) (D2 : Draws P w A i2 g2 n2 P2 R2) (D3 : Draws P w A i3 g3 n3 P3 R3)
    (zh : IsZipHeld s.heap z TI TO T f) (th : s.heap.get? T = some oT) (ti : IsTupOf3 s.heap TI (.ref i1) (.ref i2) (.ref i3)) (r1 : R1 i s.heap) (r2 : R2 i s.heap) (r3 : R3 i s.heap) (l1 : i ≤ n1) (l2 : i ≤ n2) (l3 : i ≤ n3) (en : i = n1 ∨ i = n2 ∨ i = n3)
    (k : ∀ m tk e, (∀ c o, c ∉ [z, i1, i2, i3] → s.heap.get? c = some o → m.get? c = some o) → (∃ o, m.get? e = some o ∧ o.cls = .type "StopIteration") → E (.ref e) { s with heap := m, toks := tk }) :
    wpAny (model P w) A (Builtin.«zip.__next__» ⟨[.ref z], []⟩) Q E s := by
  rcases s with ⟨h0, gl, dr, t0, os⟩
  show wpAny _ _ (field (.ref z) 2 >>= _) _ _ _
  refine wpAny_bind (wpAny_field zh rfl (x := .bool false) rfl ?_)
  show wpAny _ _ (field (.ref z) 3 >>= _) _ _ _
  refine wpAny_bind (wpAny_field zh rfl (x := .ref TI) rfl ?_)
  refine wpAny_bind (wpAny_seqItems ti rfl ?_)
  show wpAny _ _ (Builtin.SmallTypes.ownedTupleIsFree (.ref z) >>= _) _ _ _
  refine wpAny_bind (wpAny_tupleHeld_zip zh th fun m0 z0 b0 => ?_)
  replace b0 : Heap.SameBut z h0 m0 := b0
  simp only [Bool.false_eq_true, if_false]
  refine wpAny_bind ?_
  rw [← Array.forIn_toList]
  simp only [List.forIn_cons, List.forIn_nil]
  refine wpAny_bind (wpAny_bind (wpAny_holding ?_))
  show wpAny _ _ (Builtin.SmallTypes.nextOf (.ref i1) >>= _) _ _ ⟨m0, gl, dr, t0, os⟩
  have fr : ∀ {m : Heap} {c : Addr}, c ∉ [z, i1, i2, i3] → c ≠ z ∧ c ≠ i1 ∧ c ≠ i2 ∧ c ≠ i3 := fun hc => by simpa only [List.mem_cons, List.not_mem_nil, or_false, not_or] using hc
  by_cases q1 : i < n1
  · refine wpAny_bind (D1.item i _ _ _ q1 (D1.over r1 b0 S.zf1) fun x m1 t1 px y1 b1 => wpAny_pure (wpAny_pure ?_))
    replace b1 : Heap.SameBut i1 m0 m1 := b1
    refine wpAny_bind (wpAny_bind (wpAny_holding ?_))
    show wpAny _ _ (Builtin.SmallTypes.nextOf (.ref i2) >>= _) _ _ ⟨m1, gl, dr, t1, os⟩
    by_cases q2 : i < n2
    · refine wpAny_bind (D2.item i _ _ _ q2 (D2.over (D2.over r2 b0 S.zf2) b1 S.sep1_2) fun y m2 t2 py y2 b2 => wpAny_pure (wpAny_pure ?_))
      replace b2 : Heap.SameBut i2 m1 m2 := b2
      refine wpAny_bind (wpAny_bind (wpAny_holding ?_))
      show wpAny _ _ (Builtin.SmallTypes.nextOf (.ref i3) >>= _) _ _ ⟨m2, gl, dr, t2, os⟩
      have e3 : i = n3 := by omega
      refine wpAny_bind (D3.done ⟨m2, gl, dr, t2, os⟩ _ _ (by rw [← e3]; exact D3.over (D3.over (D3.over r3 b0 S.zf3) b1 S.sep1_3) b2 S.sep2_3) fun m3 e b3 he => ?_)
      exact k m3 t2 e (fun c o hc q => by obtain ⟨c0, c1, c2, c3⟩ := fr (m := m3) hc; exact b3 _ _ c3 (b2.extBut _ _ c2 (b1.extBut _ _ c1 (b0.extBut _ _ c0 q)))) he
    · have e2 : i = n2 := by omega
      refine wpAny_bind (D2.done ⟨m1, gl, dr, t1, os⟩ _ _ (by rw [← e2]; exact D2.over (D2.over r2 b0 S.zf2) b1 S.sep1_2) fun m3 e b3 he => ?_)
      exact k m3 t1 e (fun c o hc q => by obtain ⟨c0, c1, c2, c3⟩ := fr (m := m3) hc; exact b3 _ _ c2 (b1.extBut _ _ c1 (b0.extBut _ _ c0 q))) he
  · have e1 : i = n1 := by omega
    refine wpAny_bind (D1.done ⟨m0, gl, dr, t0, os⟩ _ _ (by rw [← e1]; exact D1.over r1 b0 S.zf1) fun m3 e b3 he => ?_)
    exact k m3 t0 e (fun c o hc q => by obtain ⟨c0, c1, c2, c3⟩ := fr (m := m3) hc; exact b3 _ _ c1 (b0.extBut _ _ c0 q)) he
theorem pyNextH3 {Q : Option Value → Shared → Prop} (S : ZipSep3 z TI TO i1 i2 i3 g1 g2 g3) (D1 : Draws P w A.in1 i1 g1 n1 P1 R1) (D2 : Draws P w A.in1 i2 g2 n2 P2 R2) (D3 : Draws P w A.in1 i3 g3 n3 P3 R3)
    (zh : IsZipHeld s.heap z TI TO T f) (th : s.heap.get? T = some oT) (ti : IsTupOf3 s.heap TI (.ref i1) (.ref i2) (.ref i3)) (r1 : R1 i s.heap) (r2 : R2 i s.heap) (r3 : R3 i s.heap) (l1 : i < n1) (l2 : i < n2) (l3 : i < n3)
    (k : ∀ x y u m tk, P1 i x → P2 i y → P3 i u → IsZipHeld m z TI TO T true → R1 (i + 1) m → R2 (i + 1) m → R3 (i + 1) m → IsTupOf3 m s.heap.objs.size x y u →
      (∀ c o, c ∉ [z, i1, i2, i3] → s.heap.get? c = some o → m.get? c = some o) → Q (some (.ref s.heap.objs.size)) { s with heap := m, toks := tk }) : wpAny (model P w) A (pyNext (.ref z)) Q E s := by
  have ty : s.TypeIs (.ref z) "zip" := ⟨_, zh, rfl⟩
  unfold pyNext
  refine wpAny_bind (wpAny_attempt (wpAny_callSpecial?_slot (name := Str.ofString "__next__") ty F.slot_zip_next (wpAny_call_entry F.slot_zip_next ty F.entry_zip_next ?_ (F.args_zip_next_1 _))))
  exact nextH3 S D1 D2 D3 zh th ti r1 r2 r3 l1 l2 l3 fun x y u m tk a b c d e f g h j => wpAny_pure (k x y u m tk a b c d e f g h j)
theorem pyOverH3 {Q : Option Value → Shared → Prop} (S : ZipSep3 z TI TO i1 i2 i3 g1 g2 g3) (D1 : Draws P w A.in1 i1 g1 n1 P1 R1) (D2 : Draws P w A.in1 i2 g2 n2 P2 R2) (D3 : Draws P w A.in1 i3 g3 n3 P3 R3)
    (zh : IsZipHeld s.heap z TI TO T f) (th : s.heap.get? T = some oT) (ti : IsTupOf3 s.heap TI (.ref i1) (.ref i2) (.ref i3)) (r1 : R1 i s.heap) (r2 : R2 i s.heap) (r3 : R3 i s.heap) (l1 : i ≤ n1) (l2 : i ≤ n2) (l3 : i ≤ n3) (en : i = n1 ∨ i = n2 ∨ i = n3)
    (k : ∀ m tk, (∀ c o, c ∉ [z, i1, i2, i3] → s.heap.get? c = some o → m.get? c = some o) → Q none { s with heap := m, toks := tk }) : wpAny (model P w) A (pyNext (.ref z)) Q E s := by
  have ty : s.TypeIs (.ref z) "zip" := ⟨_, zh, rfl⟩
  unfold pyNext
  refine wpAny_bind (wpAny_attempt (wpAny_callSpecial?_slot (name := Str.ofString "__next__") ty F.slot_zip_next (wpAny_call_entry F.slot_zip_next ty F.entry_zip_next ?_ (F.args_zip_next_1 _))))
  refine overH3 S D1 D2 D3 zh th ti r1 r2 r3 l1 l2 l3 en fun m tk e kp he => ?_
  obtain ⟨o, ho, hc⟩ := he
  exact wpAny_bind (wpAny_isInstance (T := "StopIteration") (b := true) ⟨o, ho, hc⟩ isSubtype_stop (wpAny_pure (k m tk kp)))
end
/-! the state ahead of turn j -/
open Zy in
structure Z3 (h : Heap) (z TI TO i1 i2 i3 a b c : Addr) (j : Nat) : Prop where
  ti : IsTupOf3 h TI (.ref i1) (.ref i2) (.ref i3)
  p1 : h.IsListIter i1 a j
  p2 : h.IsListIter i2 b j
  p3 : h.IsListIter i3 c j
  zz : (IsZip h z TI TO .none ∧ ∃ x y u, IsTupOf3 h TO x y u) ∨ ∃ T f oT, IsZipHeld h z TI TO T f ∧ h.get? T = some oT ∧ (∃ oO, h.get? TO = some oO) ∧ T ∉ [z, TI, TO, i1, i2, i3]
theorem Z3.at {h h' : Heap} {z TI TO i1 i2 i3 a b c : Addr} {j : Nat} {L : Addr} (st : Z3 h z TI TO i1 i2 i3 a b c j) (n : L ∉ [z, TI, TO, i1, i2, i3]) (hk : ∀ c o, c ≠ L → h.get? c = some o → h'.get? c = some o)
    (ho : ∀ o, h.get? L = some o → ∃ o', h'.get? L = some o') : Z3 h' z TI TO i1 i2 i3 a b c j := by
  have ne : ∀ {d}, d ∈ [z, TI, TO, i1, i2, i3] → d ≠ L := fun hd e => n (e ▸ hd)
  obtain ⟨ti, p1, p2, p3, w⟩ := st
  refine ⟨hk _ _ (ne (by simp)) ti, p1.at fun o e => hk _ o (ne (by simp)) e, p2.at fun o e => hk _ o (ne (by simp)) e, p3.at fun o e => hk _ o (ne (by simp)) e, ?_⟩
  rcases w with ⟨w1, x, y, u, w2⟩ | ⟨T, f, oT, w1, w2, ⟨oO, w4⟩, w3⟩
  · exact .inl ⟨hk _ _ (ne (by simp)) w1, x, y, u, hk _ _ (ne (by simp)) w2⟩
  · by_cases e : T = L
    · subst e
      obtain ⟨o', e'⟩ := ho _ w2
      exact .inr ⟨T, f, o', hk _ _ (ne (by simp)) w1, e', ⟨oO, hk _ _ (ne (by simp)) w4⟩, w3⟩
    · exact .inr ⟨T, f, oT, hk _ _ (ne (by simp)) w1, hk _ _ e w2, ⟨oO, hk _ _ (ne (by simp)) w4⟩, w3⟩
section
variable {X : Cx} {pins : List (Addr × Obj)} {σ : L2.St}
theorem fill3 {Q : VK} (hc : X.calm = true) {z TI TO i1 i2 i3 a b c L : Addr} (na : a ≠ i1) (nb : b ≠ i2) (ncc : c ≠ i3) (D : ZipSep3 z TI TO i1 i2 i3 [i1, a] [i2, b] [i3, c]) (nL : L ∉ [z, TI, TO, i1, i2, i3]) {xs ys zs : List V} {n : Nat} (hn : n = min (min xs.length ys.length) zs.length) (hl : n ≤ sizeLine) {Z : Nat → Hp → Prop}
    (hZ : ∀ j H, Z j H → SqL X.K H a xs ∧ SqL X.K H b ys ∧ SqL X.K H c zs ∧ ∃ rs, H L = some (.lst rs) ∧ rs.length = j)
    (hstep : ∀ j H T x y u rs, Z j H → xs[j]? = some x → ys[j]? = some y → zs[j]? = some u → H T = none → H L = some (.lst rs) → ∀ us, Z (j + 1) (upd (upd H T (Fz.fz us [x, y, u])) L (.lst (rs ++ [.ref T]))))
    (hfin : ∀ H, Z n H → Q (.ref L) H) :
    ∀ (k j : Nat) (s : Shared) (H : Hp), n - j = k → j ≤ n → Inv X pins σ H s → Z j H → Z3 s.heap z TI TO i1 i2 i3 a b c j → (∀ d ∈ [z, TI, TO, i1, i2, i3], FpOk X pins H d) →
      codeAny (model X.prog X.w) X.A.in1 (.builtin "list.extend.loop" ⟨[.ref L, .ref z, .none], []⟩) (wants (fun r t => r = .none ∧ EP X pins σ Q (.ref L) t) X.xe) s := by
  intro k
  induction k with
  | zero =>
    intro j s H hk hj I zj st fp
    obtain rfl : j = n := by omega
    obtain ⟨sa, sb, sc, rs, hL, lr⟩ := hZ _ _ zj
    obtain ⟨us1, rv1, c1⟩ := Zy.read (k := true) I sa
    obtain ⟨us2, rv2, c2⟩ := Zy.read (k := true) I sb
    obtain ⟨us3, rv3, c3⟩ := Zy.read (k := true) I sc
    have e1 := rv1.length
    have e2 := rv2.length
    have e3 := rv3.length
    have d1 := Zy.draws (X := X) (k := true) (a := a) (A := X.A.in1.in1.in1) (I.ok.hd hc) i1 na us1
    have d2 := Zy.draws (X := X) (k := true) (a := b) (A := X.A.in1.in1.in1) (I.ok.hd hc) i2 nb us2
    have d3 := Zy.draws (X := X) (k := true) (a := c) (A := X.A.in1.in1.in1) (I.ok.hd hc) i3 ncc us3
    obtain ⟨ti, p1, p2, p3, ww⟩ := st
    refine codeAny_builtin F.entry_extend_loop ?_
    rw [Around.under_plainId F.plain_extend_loop]
    have don : ∀ (m : Heap) (tk : Nat), (∀ d o, d ∉ [z, TI, TO, i1, i2, i3] → s.heap.get? d = some o → m.get? d = some o) → EP X pins σ Q (.ref L) { s with heap := m, toks := tk } := fun m tk kp => ⟨.ref L, H, I.turnedL (t' := tk) (ch := [z, TI, TO, i1, i2, i3]) kp fp, rfl, hfin H zj⟩
    show wpAny _ X.A.in1.in1 (pyNext (Value.ref z) >>= _) _ _ _
    rcases ww with ⟨w1, x, y, u, w2⟩ | ⟨T, f, oT, w1, w2, _, w3⟩
    · refine wpAny_bind (wpAny_pyNext_zipD3_end D d1 d2 d3 w1 ti w2 ⟨p1, c1⟩ ⟨p2, c2⟩ ⟨p3, c3⟩ (by omega) (by omega) (by omega) (by omega) fun m tk kp => wpAny_pure ⟨rfl, don m tk fun d o hd e => ?_⟩)
      simp only [List.mem_cons, List.not_mem_nil, or_false, not_or] at hd
      obtain ⟨h1, h2, h3, h4, h5, h6⟩ := hd
      exact kp d o h1 h3 h4 h5 h6 e
    · refine wpAny_bind (pyOverH3 D d1 d2 d3 w1 w2 ti ⟨p1, c1⟩ ⟨p2, c2⟩ ⟨p3, c3⟩ (by omega) (by omega) (by omega) (by omega) fun m tk kp => wpAny_pure ⟨rfl, don m tk fun d o hd e => kp d o (fun q => hd ?_) e⟩)
      simp only [List.mem_cons, List.not_mem_nil, or_false] at q ⊢
      rcases q with q | q | q | q <;> simp [q]
  | succ k ih =>
    intro j s H hk hj I zj st fp
    have jl : j < n := by omega
    obtain ⟨sa, sb, sc, rs, hL, lr⟩ := hZ _ _ zj
    obtain ⟨us1, rv1, c1⟩ := Zy.read (k := true) I sa
    obtain ⟨us2, rv2, c2⟩ := Zy.read (k := true) I sb
    obtain ⟨us3, rv3, c3⟩ := Zy.read (k := true) I sc
    have d1 := Zy.draws (X := X) (k := true) (a := a) (A := X.A.in1.in1.in1) (I.ok.hd hc) i1 na us1
    have d2 := Zy.draws (X := X) (k := true) (a := b) (A := X.A.in1.in1.in1) (I.ok.hd hc) i2 nb us2
    have d3 := Zy.draws (X := X) (k := true) (a := c) (A := X.A.in1.in1.in1) (I.ok.hd hc) i3 ncc us3
    have jx : j < xs.length := by omega
    have jy : j < ys.length := by omega
    have jz : j < zs.length := by omega
    have hx := List.getElem?_eq_getElem jx
    have hy := List.getElem?_eq_getElem jy
    have hz := List.getElem?_eq_getElem jz
    obtain ⟨u1, f1, q1⟩ := rv1.get hx
    obtain ⟨u2, f2, q2⟩ := rv2.get hy
    obtain ⟨u3, f3, q3⟩ := rv3.get hz
    have tn : H s.heap.objs.size = none := I.hok.fresh (Nat.le_refl _)
    have nT : L ≠ s.heap.objs.size := ne_of_none hL tn
    have rest : ∀ (m : Heap) (tk : Nat), IsTupOf3 m s.heap.objs.size u1 u2 u3 → Z3 m z TI TO i1 i2 i3 a b c (j + 1) → (∀ d ∈ [z, TI, TO, i1, i2, i3], d ≠ s.heap.objs.size) → (∀ d o, d ∉ [z, TI, TO, i1, i2, i3] → s.heap.get? d = some o → m.get? d = some o) →
        wpAny (model X.prog X.w) X.A.in1.in1 (updateSeq L (·.push (Value.ref s.heap.objs.size)) >>= fun _ => again (.builtin "list.extend.loop" ⟨[.ref L, .ref z, .none], []⟩))
          (fun fin t => match fin with | .done f => wants (fun r s2 => r = .none ∧ EP X pins σ Q (.ref L) s2) X.xe (.ok f) t | .again c' => c'.quiet = true ∧ codeAny (model X.prog X.w) X.A.in1 c' (wants (fun r s2 => r = .none ∧ EP X pins σ Q (.ref L) s2) X.xe) t)
          (fun e t => wants (fun r s2 => r = .none ∧ EP X pins σ Q (.ref L) s2) X.xe (.error e) t) { s with heap := m, toks := tk } := fun m tk pT st' nn kp => by
      have fine : ObjOk X.prog X.w (upd H s.heap.objs.size (Fz.fz [u1, u2, u3] [xs[j], ys[j], zs[j]])) m s.heap.objs.size (Fz.fz [u1, u2, u3] [xs[j], ys[j], zs[j]]) :=
        ⟨pT, by show 3 ≤ sizeLine; decide, [u1, u2, u3], .cons q1 (.cons q2 (.cons q3 .nil)), _, pT, rfl, _, rfl⟩
      have I1 : Inv X pins σ (upd H s.heap.objs.size (Fz.fz [u1, u2, u3] [xs[j], ys[j], zs[j]])) { s with heap := m, toks := tk } := I.turnedNew (t' := tk) (ch := [z, TI, TO, i1, i2, i3]) kp fp (Nat.le_refl _) fine
      have hL1 : upd H s.heap.objs.size (Fz.fz [u1, u2, u3] [xs[j], ys[j], zs[j]]) L = some (.lst rs) := by rw [upd_ne nT]; exact hL
      obtain ⟨zl, ls, r, rl, ob⟩ := I1.hok L _ hL1
      have rll := rl.length
      obtain ⟨r', up⟩ : ∃ r', (m.update L (Obj.mapSeq fun x => x.push (Value.ref s.heap.objs.size))).get? L = some { cls := .type "list", dict := none, data := .seq (ls.toArray.push (Value.ref s.heap.objs.size)) r', slots := #[] } := ⟨_, Heap.get?_update_self _ ob rfl⟩
      have ot : ∀ d o, d ≠ L → m.get? d = some o → (m.update L (Obj.mapSeq fun x => x.push (Value.ref s.heap.objs.size))).get? d = some o := fun d o ne e => (Heap.get?_update_other _ _ (Ne.symm ne)).trans e
      have rT : RelV (V.ref s.heap.objs.size) (Value.ref s.heap.objs.size) := rfl
      have fine2 : ObjOk X.prog X.w (upd (upd H s.heap.objs.size (Fz.fz [u1, u2, u3] [xs[j], ys[j], zs[j]])) L (.lst (rs ++ [.ref s.heap.objs.size]))) (m.update L (Obj.mapSeq fun x => x.push (Value.ref s.heap.objs.size))) L (.lst (rs ++ [.ref s.heap.objs.size])) :=
        ⟨by rw [List.length_append, List.length_singleton]; omega, ls ++ [.ref s.heap.objs.size], r', rl.append (.cons rT .nil), by rw [up]; simp⟩
      have I2 := I1.write (x := L) (e := L) (t' := tk) (by rw [hL1]; trivial) (.inl rfl) (fun d o ne e => ot d o ne e) ⟨_, up⟩ fine2
      refine wpAny_bind (wpAny_updateSeq (s := { s with heap := m, toks := tk }) ob rfl (wpAny_pure ⟨plainId_quiet F.plain_extend_loop _, ih (j + 1) _ _ (by omega) jl I2 (hstep j H _ _ _ _ rs zj hx hy hz tn hL _) (st'.at nL ot fun o e => ⟨_, up⟩) fun d hd => ?_⟩) ?_ ?_)
      · obtain ⟨y1, y2⟩ := fp d hd
        refine ⟨?_, y2⟩
        have nd : d ≠ L := fun e => nL (e ▸ hd)
        rw [upd_ne nd, upd_ne (nn d hd)]
        exact y1
      · rw [List.size_toArray]; omega
      · show (ls.toArray.push (Value.ref s.heap.objs.size)).size ≤ sizeLine + 1
        rw [Array.size_push, List.size_toArray]; omega
    obtain ⟨ti, p1, p2, p3, ww⟩ := st
    have lt1 : ∀ {d o}, s.heap.get? d = some o → d ≠ s.heap.objs.size := fun e => Nat.ne_of_lt (Heap.lt_size e)
    have m1 : i1 ≠ s.heap.objs.size := let ⟨_, e, _⟩ := p1; lt1 e
    have m2 : i2 ≠ s.heap.objs.size := let ⟨_, e, _⟩ := p2; lt1 e
    have m3 : i3 ≠ s.heap.objs.size := let ⟨_, e, _⟩ := p3; lt1 e
    have nn : z ≠ s.heap.objs.size → TO ≠ s.heap.objs.size → ∀ d ∈ [z, TI, TO, i1, i2, i3], d ≠ s.heap.objs.size := fun zn on d hd => by
      simp only [List.mem_cons, List.not_mem_nil, or_false] at hd
      rcases hd with q | q | q | q | q | q <;> rw [q]
      · exact zn
      · exact lt1 ti
      · exact on
      · exact m1
      · exact m2
      · exact m3
    refine codeAny_builtin F.entry_extend_loop ?_
    rw [Around.under_plainId F.plain_extend_loop]
    show wpAny _ X.A.in1.in1 (pyNext (Value.ref z) >>= _) _ _ _
    rcases ww with ⟨w1, x, y, u, w2⟩ | ⟨T, f, oT, w1, w2, ⟨oO, wO⟩, w3⟩
    · have nd := nn (lt1 w1) (lt1 w2)
      refine wpAny_bind (wpAny_pyNext_zipD3_item D d1 d2 d3 w1 ti w2 ⟨p1, c1⟩ ⟨p2, c2⟩ ⟨p3, c3⟩ (List.getElem?_eq_some_iff.mp f1).1 (List.getElem?_eq_some_iff.mp f2).1 (List.getElem?_eq_some_iff.mp f3).1 fun v1 v2 v3 m tk g1 g2 g3 mz mO r1 r2 r3 mN _ kp => ?_)
      cases f1.symm.trans g1
      cases f2.symm.trans g2
      cases f3.symm.trans g3
      refine rest m tk mN ⟨kp _ _ D.TIz D.TITO D.TIi1 D.TIi2 D.TIi3 ti, r1.1, r2.1, r3.1, .inr ⟨s.heap.objs.size, false, _, mz, mN, ⟨_, mO⟩, fun q => nd _ q rfl⟩⟩ nd fun d o hd e => ?_
      simp only [List.mem_cons, List.not_mem_nil, or_false, not_or] at hd
      obtain ⟨h1, h2, h3, h4, h5, h6⟩ := hd
      exact kp d o h1 h3 h4 h5 h6 e
    · have nd := nn (lt1 w1) (lt1 wO)
      refine wpAny_bind (pyNextH3 D d1 d2 d3 w1 w2 ti ⟨p1, c1⟩ ⟨p2, c2⟩ ⟨p3, c3⟩ (List.getElem?_eq_some_iff.mp f1).1 (List.getElem?_eq_some_iff.mp f2).1 (List.getElem?_eq_some_iff.mp f3).1 fun v1 v2 v3 m tk g1 g2 g3 mz r1 r2 r3 mN kp => ?_)
      cases f1.symm.trans g1
      cases f2.symm.trans g2
      cases f3.symm.trans g3
      have kp' : ∀ d o, d ∉ [z, TI, TO, i1, i2, i3] → s.heap.get? d = some o → m.get? d = some o := fun d o hd e => kp d o (fun q => hd (by simp only [List.mem_cons, List.not_mem_nil, or_false] at q ⊢; rcases q with q | q | q | q <;> simp [q])) e
      refine rest m tk mN ⟨kp _ _ ?_ ti, r1.1, r2.1, r3.1, .inr ⟨T, true, oT, mz, kp' _ _ w3 w2, ⟨oO, kp _ _ ?_ wO⟩, w3⟩⟩ nd kp'
      · simp [D.TIz, D.TIi1, D.TIi2, D.TIi3]
      · have oz : TO ≠ z := D.TOz
        have o1 : TO ≠ i1 := D.Ti1
        have o2 : TO ≠ i2 := D.Ti2
        have o3 : TO ≠ i3 := D.Ti3
        simp [oz, o1, o2, o3]
theorem call_z3 {Q : VK} {H : Hp} {s : Shared} (hc : X.calm = true) {z TI TO i1 i2 i3 a b c : Addr} (na : a ≠ i1) (nb : b ≠ i2) (ncc : c ≠ i3) (D : ZipSep3 z TI TO i1 i2 i3 [i1, a] [i2, b] [i3, c]) (I : Inv X pins σ H s) (st : Z3 s.heap z TI TO i1 i2 i3 a b c 0) (hw : IsZip s.heap z TI TO .none) (fp : ∀ d ∈ [z, TI, TO, i1, i2, i3], FpOk X pins H d) (lt : ∀ d ∈ [z, TI, TO, i1, i2, i3], d < s.heap.objs.size)
    {xs ys zs : List V} {n : Nat} (hn : n = min (min xs.length ys.length) zs.length) (hl : n ≤ sizeLine) {Z : Addr → Nat → Hp → Prop} (h0 : ∀ L, H L = none → Z L 0 (upd H L (.lst [])))
    (hZ : ∀ L j H, Z L j H → SqL X.K H a xs ∧ SqL X.K H b ys ∧ SqL X.K H c zs ∧ ∃ rs, H L = some (.lst rs) ∧ rs.length = j)
    (hstep : ∀ L j H T x y u rs, Z L j H → xs[j]? = some x → ys[j]? = some y → zs[j]? = some u → H T = none → H L = some (.lst rs) → ∀ us, Z L (j + 1) (upd (upd H T (Fz.fz us [x, y, u])) L (.lst (rs ++ [.ref T]))))
    (hfin : ∀ L H, Z L n H → Q (.ref L) H) : wpAny (model X.prog X.w) X.A (call (.type "list") [.ref z]) (EP X pins σ Q) X.xe s := by
  obtain ⟨L, eL⟩ : ∃ L, s.heap.objs.size = L := ⟨_, rfl⟩
  have nL : L ∉ [z, TI, TO, i1, i2, i3] := fun h => Nat.lt_irrefl L (by have q := lt L h; rw [eL] at q; exact q)
  refine callType_codes (Q₁ := fun u r => u = .ref L ∧ r = { s with heap := s.heap.push { cls := .type "list", data := .seq #[] } }) F.called_list (F.typeCall_list_1 _) F.entry_list_init (code_list_new _ ⟨by rw [eL], rfl⟩) fun u r hr => ?_
  obtain ⟨rfl, rfl⟩ := hr
  have v0 : (s.heap.push { cls := .type "list", data := .seq #[] }).get? L = some { cls := .type "list", data := .seq #[] } := by rw [← eL]; exact Heap.get?_push_size _ rfl
  have w0 : ∀ d o, s.heap.get? d = some o → (s.heap.push { cls := .type "list", data := .seq #[] }).get? d = some o := fun d o e => Heap.get?_push_of_some _ e
  generalize s.heap.push { cls := .type "list", data := .seq #[] } = m1 at v0 w0 ⊢
  refine ⟨⟨_, v0, rfl⟩, F.args_list_init_2 _ _, ?_⟩
  show wpAny _ X.A.in1.in1 (do let q ← Builtin.List.listItems (.ref L); Builtin.List.listUpdate (.ref L) (fun _ => #[]); letGo q.toList.reverse; Builtin.List.listExtendWith (.ref L) (.ref z) .none) _ _ _
  refine wpAny_bind (m := Builtin.List.listItems (.ref L)) ?_
  refine wpAny_bind (wpAny_seqItems v0 rfl (wpAny_pure ?_))
  show wpAny _ X.A.in1.in1 (updateSeq L (fun _ => #[]) >>= fun _ => letGo ([] : List Value) >>= fun _ => Builtin.List.listExtendWith (.ref L) (.ref z) .none) _ _ _
  refine wpAny_bind (wpAny_updateSeq v0 rfl ?_)
  have v1 := Heap.get?_update_self (Obj.mapSeq (fun _ => (#[] : Array Value))) v0 rfl
  have w1 : ∀ d o, d ≠ L → m1.get? d = some o → (m1.update L (Obj.mapSeq (fun _ => (#[] : Array Value)))).get? d = some o := fun d o ne e => (Heap.get?_update_other _ _ (Ne.symm ne)).trans e
  generalize m1.update L (Obj.mapSeq (fun _ => (#[] : Array Value))) = m2 at v1 w1 ⊢
  refine wpAny_bind (wpAny_letGo ?_)
  have nz : z ≠ L := fun e => nL (e ▸ List.mem_cons_self)
  have hw2 : IsZip m2 z TI TO .none := w1 _ _ nz (w0 _ _ hw)
  have ty : ({ s with heap := m2 } : Shared).TypeIs (.ref z) "zip" := ⟨_, hw2, rfl⟩
  unfold Builtin.List.listExtendWith
  refine wpAny_bind (wpAny_typeOf ty ?_)
  have b1 : Builtin.List.listSameRef (.ref L) (.ref z) = false := by simp [Builtin.List.listSameRef, Ne.symm nz]
  simp only [b1, show (Value.type "zip" == Value.type "list") = false by decide, show (Value.type "zip" == Value.type "tuple") = false by decide, Bool.or_false, Bool.false_eq_true, if_false]
  refine wpAny_bind (wpAny_pyIter_zip hw2 ?_)
  refine wpAny_bind (wpAny_holding ?_)
  unfold Builtin.List.listLengthHint
  refine wpAny_bind (wpAny_specialOf ty Zl.no_len ?_)
  show wpAny _ X.A.in1.in1 (specialOf (Value.ref z) (Str.ofString "__length_hint__") >>= _) _ _ _
  refine wpAny_bind (wpAny_specialOf ty Zl.no_hint (wpAny_pure ?_))
  show wpAny _ X.A.in1.in1 (rule "list.extend.makes-room" >>= fun _ => Builtin.List.listTouch (.ref L) >>= fun _ => again (.builtin "list.extend.loop" ⟨[.ref L, .ref z, .none], []⟩)) _ _ _
  refine wpAny_bind (wpAny_rule (wpAny_bind ?_))
  show wpAny _ X.A.in1.in1 (updateSeq L (·.push .none) >>= fun _ => updateSeq L (·.pop)) _ _ _
  refine wpAny_bind (wpAny_updateSeq v1 rfl ?_)
  have v2 := Heap.get?_update_self (Obj.mapSeq (·.push Value.none)) v1 rfl
  refine wpAny_updateSeq (hz := by seq_fits) v2 rfl ?_
  have v3 := Heap.get?_update_self (Obj.mapSeq (·.pop)) v2 rfl
  have w3 : ∀ d o, d ≠ L → m2.get? d = some o → ((m2.update L (Obj.mapSeq (·.push Value.none))).update L (Obj.mapSeq (·.pop))).get? d = some o := fun d o ne e => (Heap.get?_update_other _ _ (Ne.symm ne)).trans ((Heap.get?_update_other _ _ (Ne.symm ne)).trans e)
  generalize (m2.update L (Obj.mapSeq (·.push Value.none))).update L (Obj.mapSeq (·.pop)) = m3 at v3 w3 ⊢
  have up : ∀ d o, s.heap.get? d = some o → m3.get? d = some o := fun d o e => by
    have ne : d ≠ L := by rw [← eL]; exact Nat.ne_of_lt (Heap.lt_size e)
    exact w3 _ _ ne (w1 _ _ ne (w0 _ _ e))
  have I3 : Inv X pins σ (upd H L (.lst [])) { s with heap := m3, toks := s.toks } := I.laid up (by rw [eL]; exact Nat.le_refl _) ⟨by show 0 ≤ sizeLine; omega, [], _, .nil, v3⟩
  refine wpAny_pure ⟨plainId_quiet F.plain_extend_loop _, fill3 hc na nb ncc D nL hn hl (hZ L) (hstep L) (hfin L) n 0 { s with heap := m3 } _ (by omega) (by omega) I3 (h0 L (I.hok.fresh (by rw [eL]; exact Nat.le_refl _))) ?_ fun d hd => ?_⟩
  · obtain ⟨ti, p1, p2, p3, ww⟩ := st
    refine ⟨up _ _ ti, p1.at fun o e => up _ o e, p2.at fun o e => up _ o e, p3.at fun o e => up _ o e, ?_⟩
    rcases ww with ⟨q1, x, y, u, q2⟩ | ⟨T, f, oT, q1, q2, ⟨oO, q4⟩, q3⟩
    · exact .inl ⟨up _ _ q1, x, y, u, up _ _ q2⟩
    · exact .inr ⟨T, f, oT, up _ _ q1, up _ _ q2, ⟨oO, up _ _ q4⟩, q3⟩
  · obtain ⟨y1, y2⟩ := fp d hd
    refine ⟨?_, y2⟩
    have nd : d ≠ L := fun e => nL (e ▸ hd)
    rw [upd_ne nd]; exact y1
/-- list(zip(a, b, c)) -/
def tLZ3 (K : PySem.W.Frag) (ta : TA) : TE := fun σ H Q => ta σ H fun vs H1 => ∃ a b c xs ys zs, vs = [V.ref a, .ref b, .ref c] ∧ SqL K H1 a xs ∧ SqL K H1 b ys ∧ SqL K H1 c zs ∧ min (min xs.length ys.length) zs.length ≤ sizeLine ∧ ∃ Z : Addr → Nat → Hp → Prop, (∀ L, H1 L = none → Z L 0 (upd H1 L (.lst []))) ∧
  (∀ L j H, Z L j H → SqL K H a xs ∧ SqL K H b ys ∧ SqL K H c zs ∧ ∃ rs, H L = some (.lst rs) ∧ rs.length = j) ∧
  (∀ L j H T x y u rs, Z L j H → xs[j]? = some x → ys[j]? = some y → zs[j]? = some u → H T = none → H L = some (.lst rs) → ∀ us, Z L (j + 1) (upd (upd H T (Fz.fz us [x, y, u])) L (.lst (rs ++ [.ref T])))) ∧ ∀ L H, Z L (min (min xs.length ys.length) zs.length) H → Q (.ref L) H
theorem pe_lz3 {e e2 e3 : Expr} {ta : TA} {p q pos zpos : Pos} (hc : X.calm = true) (hg : Gl X "list") (hm : X.mg "list" = none) (hg2 : Gl X "zip") (hm2 : X.mg "zip" = none) (ha : PA X [e, e2, e3] ta)
    (hs : starEach [e, e2, e3] X.env = (false, eval e X.env) :: starEach [e2, e3] X.env) (hpl : (backTo zpos (starEach [e2, e3] X.env)).any (·.1) = false)
    (na : starEach [Expr.Call (.Name "zip" q) [e, e2, e3] [] zpos] X.env = (false, eval (Expr.Call (.Name "zip" q) [e, e2, e3] [] zpos) X.env) :: starEach [] X.env)
    (hev : eval (.Call (.Name "zip" q) [e, e2, e3] [] zpos) X.env = (do callWith zpos (← eval (.Name "zip" q) X.env) [] (backTo zpos (starEach [e, e2, e3] X.env)) (backToKw zpos (keywordEach [] X.env)))) :
    PE X (.Call (.Name "list" p) [.Call (.Name "zip" q) [e, e2, e3] [] zpos] [] pos) (tLZ3 X.K ta) := by
  constructor
  intro pins s σ H Q I h
  refine Call_ (ld_blt I hg hm boot_list (PyProof.Rows.callWith_type1 (args_cons ?_ na) na))
  refine Call_ (ld_blt I hg2 hm2 PyProof.Rows.boot_zip (PyProof.Rows.callWith_type1 (thn (ha.run zpos pins s σ H _ I h) fun us t1 w => ?_) hs hpl)) hev
  obtain ⟨vs, H1, J, r, a, b, c, xs, ys, zs, rfl, sa, sb, sc, hl, Z, h0, hZ, hstep, hfin⟩ := w
  rcases r with _ | ⟨⟨⟩, _ | ⟨⟨⟩, _ | ⟨⟨⟩, ⟨⟩⟩⟩⟩
  obtain ⟨us1, _, c1⟩ := Zy.read (k := true) J sa
  obtain ⟨us2, _, c2⟩ := Zy.read (k := true) J sb
  obtain ⟨us3, _, c3⟩ := Zy.read (k := true) J sc
  refine zip_begins3 (Zy.begins (k := true) us1) (Zy.begins (k := true) us2) (Zy.begins (k := true) us3) c1 c2 c3 fun m mz mI mO m1 m2 m3 sz kp => args_nil ?_
  have lt1 := c1.lt
  have lt2 := c2.lt
  have lt3 := c3.lt
  have rng : ∀ d ∈ [t1.heap.objs.size + 5, t1.heap.objs.size + 3, t1.heap.objs.size + 4, t1.heap.objs.size, t1.heap.objs.size + 1, t1.heap.objs.size + 2], t1.heap.objs.size ≤ d ∧ d < m.objs.size := fun d hd => by
    rw [sz]
    rcases Zy.mem6 hd with q | q | q | q | q | q <;> rw [q] <;> omega
  have a1 : Zy.Aim true m t1.heap.objs.size a 0 := Zy.Aim.new m1
  have a2 : Zy.Aim true m (t1.heap.objs.size + 1) b 0 := Zy.Aim.new m2
  have a3 : Zy.Aim true m (t1.heap.objs.size + 2) c 0 := Zy.Aim.new m3
  exact call_z3 hc (Nat.ne_of_lt lt1) (Nat.ne_of_lt (Nat.lt_succ_of_lt lt2)) (Nat.ne_of_lt (Nat.lt_succ_of_lt (Nat.lt_succ_of_lt lt3))) (zip_sep3 (Zy.one_lt lt1) (Zy.one_lt lt2) (Zy.one_lt lt3)) (J.kept (t' := t1.toks) kp) ⟨mI, a1, a2, a3, .inl ⟨mz, _, _, _, mO⟩⟩ mz
    (fun d hd => J.fpOk (rng d hd).1 (J.hok.fresh (rng d hd).1)) (fun d hd => (rng d hd).2) rfl hl h0 hZ hstep hfin
end
end Zt
namespace Dv
open PySem PySem.Spec PyProof.Rows L2 Gr
def z3T (p : D × D × D) : D := .tup [p.1, p.2.1, p.2.2]
def zip3L (xs ys zs : List D) : List D := (xs.zip (ys.zip zs)).map z3T
def lz3O : Option O → Option O → Option O → Sto → R D
  | some (.lst _ xs), some (.lst _ ys), some (.lst _ zs), S => if xs.length ≤ mx then .ok (.ref S.length) (S ++ [.lst true (zip3L xs ys zs)]) else .no
  | _, _, _, _ => .no
def lz3K : List D → Sto → R D
  | [.ref i, .ref j, .ref k], S => lz3O S[i]? S[j]? S[k]? S
  | _, _ => .no
def dLZ3 (a : DenA) : Den := fun lv ρ S => (a lv ρ S).bind lz3K
@[simp] theorem ev_lz3 {a : DenA} {lv : Lv} {ρ : Env} {S : Sto} : dLZ3 a lv ρ S = (a lv ρ S).bind lz3K := id rfl
@[simp] theorem lz3K_r {i j k : Nat} {S : Sto} : lz3K [.ref i, .ref j, .ref k] S = lz3O S[i]? S[j]? S[k]? S := id rfl
@[simp] theorem lz3O_l {a b c : Bool} {xs ys zs : List D} {S : Sto} : lz3O (some (.lst a xs)) (some (.lst b ys)) (some (.lst c zs)) S = if xs.length ≤ mx then .ok (.ref S.length) (S ++ [.lst true (zip3L xs ys zs)]) else .no := id rfl
section
variable {X : Cx} {tabs : List Addr} {EX : EXT} {lv : Lv} {ra : DenA} {e e2 e3 : Expr} {p q pos zpos : Pos}
theorem lz3O_in {S S2 : Sto} {Q : D → Sto → Prop} {W : Nat → Sto → Prop} {a b c : Option O} (h : (lz3O a b c S).wp Q W) : ∃ w1 w2 w3 xs ys zs, a = some (.lst w1 xs) ∧ b = some (.lst w2 ys) ∧ c = some (.lst w3 zs) ∧ xs.length ≤ mx ∧ Q (.ref S.length) (S ++ [.lst true (zip3L xs ys zs)]) := by
  unfold lz3O at h
  split at h
  · rename_i w1 xs w2 ys w3 zs
    split at h
    · rename_i hx
      exact ⟨w1, w2, w3, xs, ys, zs, rfl, rfl, rfl, hx, h⟩
    · exact h.elim
  · exact h.elim
theorem xlz3 (hm : X.mg "list" = none) (hm2 : X.mg "zip" = none) (ha : PA X [e, e2, e3] (semA ⟨X.K, tabs⟩ EX lv ra)) (hg : Gl X "list" := by rfl) (hg2 : Gl X "zip" := by rfl) (hc : X.calm = true := by rfl)
    (hs : starEach [e, e2, e3] X.env = (false, eval e X.env) :: starEach [e2, e3] X.env := by rfl) (hpl : (backTo zpos (starEach [e2, e3] X.env)).any (·.1) = false := by rfl)
    (na : starEach [Expr.Call (.Name "zip" q) [e, e2, e3] [] zpos] X.env = (false, eval (Expr.Call (.Name "zip" q) [e, e2, e3] [] zpos) X.env) :: starEach [] X.env := by rfl)
    (hev : eval (.Call (.Name "zip" q) [e, e2, e3] [] zpos) X.env = (do callWith zpos (← eval (.Name "zip" q) X.env) [] (backTo zpos (starEach [e, e2, e3] X.env)) (backToKw zpos (keywordEach [] X.env))) := by rfl) :
    PE X (.Call (.Name "list" p) [.Call (.Name "zip" q) [e, e2, e3] [] zpos] [] pos) (semE ⟨X.K, tabs⟩ EX lv (dLZ3 ra)) := by
  refine PE.imp (Zt.pe_lz3 hc hg hm hg2 hm2 ha hs hpl na hev) fun σ H Q h => ?_
  obtain ⟨ρ, S, ι, he, hs, hw⟩ := h
  refine stepA (Po := fun ι H => PV ⟨X.K, tabs⟩ ι H Q) he hs (fun l q => q.mono l) hw fun xs S1 vs H1 ι1 l1 s1 r1 e1 h1 => ?_
  unfold lz3K at h1
  split at h1
  · rename_i i j k
    obtain ⟨w1, w2, w3, xs, ys, zs, gi, gj, gk, hx, h1⟩ := lz3O_in (S2 := S1) h1
    obtain ⟨v, rr, rfl, q1, q0⟩ := r1
    obtain ⟨u, t, rfl, q2, q3⟩ := repl2 q0
    obtain ⟨a, rfl, z1⟩ := q1
    obtain ⟨b, rfl, z2⟩ := q2
    obtain ⟨c, rfl, z3⟩ := q3
    obtain ⟨a', vs, ha', y1, r1⟩ := s1.list gi
    obtain ⟨b', us, hb', y2, r2⟩ := s1.list gj
    obtain ⟨c', ts, hc', y3, r3⟩ := s1.list gk
    rw [z1] at ha'
    rw [z2] at hb'
    rw [z3] at hc'
    cases ha'; cases hb'; cases hc'
    have lx := r1.len
    have ly := r2.len
    have lz := r3.len
    have lz3 : (zip3L xs ys zs).length = min (min vs.length us.length) ts.length := by
      unfold zip3L
      rw [List.length_map, List.length_zip, List.length_zip, lx, ly, lz]; omega
    have mn : min (min vs.length us.length) ts.length ≤ sizeLine := by have := mx_le hx; omega
    refine ⟨a, b, c, vs, us, ts, rfl, y1, y2, y3, mn, fun L jj H' => SRep X.K tabs (ι1 ++ [L]) (S1 ++ [.lst true ((zip3L xs ys zs).take jj)]) H' ∧ Le ι1 H1 (ι1 ++ [L]) H' ∧ (∀ c o, H1 c = some o → H' c = some o) ∧ jj ≤ (zip3L xs ys zs).length ∧ H1 L = none, fun L hL => ?_, fun L jj H' hZ => ?_, fun L jj H' T x y zv rs hZ hx' hy' hz' hT hL uu => ?_, fun L H' hZ => ?_⟩
    · obtain ⟨s2, l2, _⟩ := new_lst (w := ⟨X.K, tabs⟩) (xs := []) (vs := []) s1 hL rfl
      exact ⟨by simpa using s2, l2, fun c o e => by rw [upd_ne (ne_of_none e hL)]; exact e, Nat.zero_le _, hL⟩
    · obtain ⟨s2, l2, k2, jl, hL1⟩ := hZ
      obtain ⟨rs, hrs, rr⟩ := s2.obj S1.length _ L (get_last rfl) (get_last s1.len)
      refine ⟨sq_keep y1 k2, sq_keep y2 k2, sq_keep y3 k2, rs, hrs, ?_⟩
      rw [← rr.len, List.length_take]; omega
    · obtain ⟨s2, l2, k2, jl, hL1⟩ := hZ
      obtain ⟨rs', hrs, rr⟩ := s2.obj S1.length _ L (get_last rfl) (get_last s1.len)
      rw [hL] at hrs
      cases hrs
      obtain ⟨dx, ex, rx⟩ := r1.back hx'
      obtain ⟨dy, ey, ry⟩ := r2.back hy'
      obtain ⟨dz, ez', rz⟩ := r3.back hz'
      have ez : (zip3L xs ys zs)[jj]? = some (.tup [dx, dy, dz]) := by
        unfold zip3L
        have e1 : (ys.zip zs)[jj]? = some (dy, dz) := List.getElem?_zip_eq_some.mpr ⟨ey, ez'⟩
        have e2 : (xs.zip (ys.zip zs))[jj]? = some (dx, (dy, dz)) := List.getElem?_zip_eq_some.mpr ⟨ex, e1⟩
        rw [List.getElem?_map, e2]; rfl
      have jlt : jj < (zip3L xs ys zs).length := (List.getElem?_eq_some_iff.mp ez).1
      have tk : (zip3L xs ys zs).take (jj + 1) = (zip3L xs ys zs).take jj ++ [.tup [dx, dy, dz]] := by rw [List.take_add_one, ez]; rfl
      have LT : L ≠ T := ne_of_none hL hT
      have lT := le_upd (ι := ι1 ++ [L]) (u := Fz.fz uu [x, y, zv]) hT
      have s3 := s2.extra (u := Fz.fz uu [x, y, zv]) hT
      have rt : Rep X.K (ι1 ++ [L]) (upd H' T (Fz.fz uu [x, y, zv])) (.tup [dx, dy, dz]) (.ref T) := ⟨T, [x, y, zv], rfl, .inl ⟨_, upd_same, rfl, rfl⟩, ⟨x, _, rfl, Rep.mono (l2.trans lT) _ _ rx, ⟨y, _, rfl, Rep.mono (l2.trans lT) _ _ ry, ⟨zv, [], rfl, Rep.mono (l2.trans lT) _ _ rz, rfl⟩⟩⟩⟩
      have lL : Le (ι1 ++ [L]) (upd H' T (Fz.fz uu [x, y, zv])) (ι1 ++ [L]) (upd (upd H' T (Fz.fz uu [x, y, zv])) L (.lst (rs ++ [.ref T]))) := ⟨fun _ _ z => z, fun c vs z => by
        rw [upd_ne (fun q => by rw [q, upd_ne LT, hL] at z; cases z)]; exact z, fun c o u z => by
        rw [upd_ne (fun q => by rw [q, upd_ne LT, hL] at z; cases z)]; exact z⟩
      obtain ⟨s4, l4⟩ := s3.put (i := S1.length) (a := L) (u := .lst (rs ++ [.ref T])) (o := .lst true ((zip3L xs ys zs).take jj)) (o' := .lst true ((zip3L xs ys zs).take (jj + 1))) (get_last rfl) (get_last s1.len) rfl rfl ⟨_, upd_same, by
        rw [tk]
        exact RepL.app (RepL.mono (lT.trans lL) _ _ rr) (RepL.one (Rep.mono lL _ _ rt))⟩
      refine ⟨by simpa using s4, l2.trans (lT.trans l4), fun c o e => ?_, jlt, hL1⟩
      have e' := k2 c o e
      rw [upd_ne (ne_of_none e hL1), upd_ne (ne_of_none e' hT)]
      exact e'
    · obtain ⟨s2, l2, k2, jl, hL1⟩ := hZ
      have e : (zip3L xs ys zs).take (min (min vs.length us.length) ts.length) = zip3L xs ys zs := List.take_of_length_le (by omega)
      rw [e] at s2
      exact h1 (.ref L) H' _ l2 s2 ⟨L, rfl, get_last s1.len⟩
  · exact h1.elim
end
end Dv

namespace Kj
open PySem PySem.Spec PyProof.Rows L2 Dv
/-- webs -/
noncomputable def dn_0 : DenS := (sSeq (sAsg (.nm 1) (dLst (dCons (dTup dNil) dNil)))
    (sSeq (sFor (iVal (dOp ixD (dVar 0) (dC (.int 1)))) (.nm 2) (sAsg (.nm 1) (dOp addD (dVar 1) (dLc (iVal (dVar 1)) (.nm 3) tYesD (dOp addD (dVar 3) (dTup (dCons (dVar 2) dNil))) [3]))))
    (sRet (dVar 1))))
/-- number_of -/
noncomputable def dn_1 : DenS := (sSeq (sAsg (.nm 2) (dC (.int 0)))
    (sSeq (sAsg (.nm 3) (dC (.int 1)))
    (sSeq (sFor (iVal (dOp ixD (dVar 0) (dC (.int 1)))) (.nm 4) (sSeq (sIf (dBl (dOp inD (dVar 4) (dVar 1))) (sAug 2 iaddD (dVar 3)) sNil)
    (sAug 3 imulD (dC (.int 2)))))
    (sRet (dVar 2)))))
/-- missing -/
noncomputable def dn_2 : DenS := (sRet (dTg (iVal (dOp ixD (dVar 0) (dC (.int 1)))) (.nm 2) (dBl (dOp ninD (dVar 2) (dVar 1))) (dVar 2) [2]))
/-- near -/
noncomputable def dn_3 : DenS := (sSeq (sAsg (.nm 2) (dLst dNil))
    (sSeq (sFor (iVal (dVar 0)) (.tp [3, 4]) (sSeq (sIf (dBl (dOp eqD (dVar 3) (dVar 1))) (sExpr (dMt appendD (dVar 2) (dCons (dVar 4) dNil))) sNil)
    (sIf (dBl (dOp eqD (dVar 4) (dVar 1))) (sExpr (dMt appendD (dVar 2) (dCons (dVar 3) dNil))) sNil)))
    (sRet (dVar 2))))
/-- ways_from -/
noncomputable def dn_4 : DenS := (sSeq (sAsg (.nm 2) (dDisp (pCons (dVar 1) (dLst (dCons (dVar 1) dNil)) pNil)))
    (sSeq (sAsg (.nm 3) (dLst (dCons (dVar 1) dNil)))
    (sSeq (sWhile 100000 (dTru (dVar 3)) (sSeq (sAsg (.nm 4) (dMt popAtD (dVar 3) (dCons (dC (.int 0)) dNil)))
    (sFor (iVal (dCallF 3 2 (dCons (dVar 0) (dCons (dVar 4) dNil)))) (.nm 5) (sIf (dBl (dOp ninD (dVar 5) (dVar 2))) (sSeq (sSubW setA (dVar 2) (dVar 5) (dOp addD (dOp ixA (dVar 2) (dVar 4)) (dLst (dCons (dVar 5) dNil))))
    (sExpr (dMt appendD (dVar 3) (dCons (dVar 5) dNil)))) sNil))))
    (sRet (dVar 2)))))
/-- pieces -/
noncomputable def dn_5 : DenS := (sSeq (sAsg (.nm 2) (dLst dNil))
    (sSeq (sFor (iRange1 (dCons (dOp ixD (dVar 0) (dC (.int 0))) dNil)) (.nm 4) (sIf (dNotT (dTru (dAb true (iVal (dVar 2)) (.nm 5) tYesD (dOp inD (dVar 4) (dVar 5)) [5]))) (sSeq (sAsg (.nm 3) (dCallF 4 2 (dCons (dVar 1) (dCons (dVar 4) dNil))))
    (sExpr (dMt appendD (dVar 2) (dCons (dSK (dVar 3)) dNil)))) sNil))
    (sRet (dVar 2))))
/-- ring_of -/
noncomputable def dn_6 : DenS := (sSeq (sAsg (.nm 2) (dLst dNil))
    (sSeq (sFor (iVal (dVar 1)) (.tp [3, 4]) (sSeq (sAsg (.nm 5) (dGet (dCallF 4 2 (dCons (dVar 2) (dCons (dVar 3) dNil))) (dVar 4)))
    (sSeq (sIf (dBl (dOp isnD (dVar 5) (dC .non))) (sRet (dVar 5)) sNil)
    (sExpr (dMt appendD (dVar 2) (dCons (dTup (dCons (dVar 3) (dCons (dVar 4) dNil))) dNil))))))
    (sRet (dC .non))))
/-- sides_of -/
noncomputable def dn_7 : DenS := (sSeq (sAsg (.nm 5) (dOp mulD (dLst (dCons (dC (.int 0)) dNil)) (dOp ixA (dVar 0) (dC (.int 0)))))
    (sSeq (sFor (iVal (dCallF 5 2 (dCons (dVar 0) (dCons (dVar 1) dNil)))) (.nm 2) (sSeq (sAsg (.nm 3) (dCallF 4 2 (dCons (dVar 1) (dCons (dOp ixA (dVar 2) (dC (.int 0))) dNil))))
    (sFor (iVal (dVar 2)) (.nm 4) (sSubW setA (dVar 5) (dVar 4) (dOp modD (dOp subD (dCl lenD (dCons (dOp ixA (dVar 3) (dVar 4)) dNil)) (dC (.int 1))) (dC (.int 2)))))))
    (sSeq (sIf (dTru (dAb true (iVal (dVar 1)) (.tp [6, 7]) tYesD (dOp eqD (dOp ixA (dVar 5) (dVar 6)) (dOp ixA (dVar 5) (dVar 7))) [6, 7])) (sRet (dC .non)) sNil)
    (sRet (dVar 5)))))
/-- has_three -/
noncomputable def dn_8 : DenS := (sSeq (sFor (iVal (dVar 0)) (.tp [1, 2]) (sSeq (sAsg (.nm 3) (dCallF 3 2 (dCons (dVar 0) (dCons (dVar 2) dNil))))
    (sIf (dTru (dAb true (iVal (dCallF 3 2 (dCons (dVar 0) (dCons (dVar 1) dNil)))) (.nm 4) tYesD (dOp inD (dVar 4) (dVar 3)) [4])) (sRet (dC (.bl true))) sNil)))
    (sRet (dC (.bl false))))
/-- has_shape -/
noncomputable def dn_9 : DenS := (sSeq (sIf (dBl (dOp eqD (dVar 1) (dC (.str "odd")))) (sRet (dOp eqD (dOp modD (dCl lenD (dCons (dVar 2) dNil)) (dC (.int 2))) (dC (.int 1)))) sNil)
    (sSeq (sIf (dBl (dOp eqD (dVar 1) (dC (.str "joined")))) (sRet (dOp eqD (dCl lenD (dCons (dCallF 5 2 (dCons (dVar 0) (dCons (dVar 2) dNil))) dNil)) (dC (.int 1)))) sNil)
    (sSeq (sIf (dBl (dOp eqD (dVar 1) (dC (.str "ring")))) (sRet (dOp isnD (dCallF 6 2 (dCons (dVar 0) (dCons (dVar 2) dNil))) (dC .non))) sNil)
    (sSeq (sIf (dBl (dOp eqD (dVar 1) (dC (.str "three")))) (sRet (dCallF 8 1 (dCons (dVar 2) dNil))) sNil)
    (sSeq (sIf (dBl (dOp eqD (dVar 1) (dC (.str "hub")))) (sRet (dAb true (iRange1 (dCons (dOp ixD (dVar 0) (dC (.int 0))) dNil)) (.nm 3) tYesD (dOp eqD (dCl lenD (dCons (dCallF 3 2 (dCons (dVar 2) (dCons (dVar 3) dNil))) dNil)) (dOp subD (dOp ixD (dVar 0) (dC (.int 0))) (dC (.int 1)))) [3])) sNil)
    (sSeq (sIf (dBl (dOp eqD (dVar 1) (dC (.str "lone")))) (sRet (dAb true (iRange1 (dCons (dOp ixD (dVar 0) (dC (.int 0))) dNil)) (.nm 3) tYesD (dOp eqD (dCl lenD (dCons (dCallF 3 2 (dCons (dVar 2) (dCons (dVar 3) dNil))) dNil)) (dC (.int 0))) [3])) sNil)
    (sRet (dOp isnD (dCallF 7 2 (dCons (dVar 0) (dCons (dVar 2) dNil))) (dC .non)))))))))
/-- has_simple -/
noncomputable def dn_10 : DenS := (sSeq (sAsg (.nm 3) (dOp ixD (dVar 1) (dC (.int 0))))
    (sSeq (sIf (dBl (dOp eqD (dVar 3) (dC (.str "tie")))) (sRet (dOp inD (dTup (dCons (dOp ixD (dVar 1) (dC (.int 1))) (dCons (dOp ixD (dVar 1) (dC (.int 2))) dNil))) (dVar 2))) sNil)
    (sSeq (sIf (dBl (dOp eqD (dVar 3) (dC (.str "many")))) (sRet (dOp geD (dCl lenD (dCons (dVar 2) dNil)) (dOp ixD (dVar 1) (dC (.int 1))))) sNil)
    (sSeq (sIf (dBl (dOp eqD (dVar 3) (dC (.str "way")))) (sRet (dOp inD (dOp ixD (dVar 1) (dC (.int 2))) (dCallF 4 2 (dCons (dVar 2) (dCons (dOp ixD (dVar 1) (dC (.int 1))) dNil))))) sNil)
    (sSeq (sIf (dBl (dOp eqD (dVar 3) (dC (.str "ends")))) (sRet (dOp geD (dCl lenD (dCons (dCallF 3 2 (dCons (dVar 2) (dCons (dOp ixD (dVar 1) (dC (.int 1))) dNil))) dNil)) (dOp ixD (dVar 1) (dC (.int 2))))) sNil)
    (sSeq (sIf (dBl (dOp eqD (dVar 3) (dC (.str "told")))) (sRet (dOp ixD (dOp ixD (dVar 1) (dC (.int 1))) (dCallF 1 2 (dCons (dVar 0) (dCons (dVar 2) dNil))))) sNil)
    (sRet (dCallF 9 3 (dCons (dVar 0) (dCons (dVar 3) (dCons (dVar 2) dNil)))))))))))
/-- has -/
noncomputable def dn_11 : DenS := (sSeq (sAsg (.nm 3) (dOp ixD (dVar 1) (dC (.int 0))))
    (sSeq (sIf (dBl (dOp eqD (dVar 3) (dC (.str "not")))) (sRet (dUn notD (dCallF 11 3 (dCons (dVar 0) (dCons (dOp ixD (dVar 1) (dC (.int 1))) (dCons (dVar 2) dNil)))))) sNil)
    (sSeq (sIf (dBl (dOp eqD (dVar 3) (dC (.str "missing")))) (sRet (dCallF 11 3 (dCons (dVar 0) (dCons (dOp ixD (dVar 1) (dC (.int 1))) (dCons (dCallF 2 2 (dCons (dVar 0) (dCons (dVar 2) dNil))) dNil))))) sNil)
    (sSeq (sIf (dBl (dOp eqD (dVar 3) (dC (.str "both")))) (sRet (dAndV (dCallF 11 3 (dCons (dVar 0) (dCons (dOp ixD (dVar 1) (dC (.int 1))) (dCons (dVar 2) dNil)))) (dCallF 11 3 (dCons (dVar 0) (dCons (dOp ixD (dVar 1) (dC (.int 2))) (dCons (dVar 2) dNil)))))) sNil)
    (sSeq (sIf (dBl (dOp eqD (dVar 3) (dC (.str "either")))) (sRet (dOrV (dCallF 11 3 (dCons (dVar 0) (dCons (dOp ixD (dVar 1) (dC (.int 1))) (dCons (dVar 2) dNil)))) (dCallF 11 3 (dCons (dVar 0) (dCons (dOp ixD (dVar 1) (dC (.int 2))) (dCons (dVar 2) dNil)))))) sNil)
    (sSeq (sIf (dBl (dOp eqD (dVar 3) (dC (.str "one")))) (sRet (dOp neD (dCallF 11 3 (dCons (dVar 0) (dCons (dOp ixD (dVar 1) (dC (.int 1))) (dCons (dVar 2) dNil)))) (dCallF 11 3 (dCons (dVar 0) (dCons (dOp ixD (dVar 1) (dC (.int 2))) (dCons (dVar 2) dNil)))))) sNil)
    (sRet (dCallF 10 3 (dCons (dVar 0) (dCons (dVar 1) (dCons (dVar 2) dNil)))))))))))
/-- first_unlike -/
noncomputable def dn_12 : DenS := (sSeq (sFor (iVal (dCallF 0 1 (dCons (dVar 0) dNil))) (.nm 3) (sIf (dBl (dOp neD (dCallF 11 3 (dCons (dVar 0) (dCons (dVar 1) (dCons (dVar 3) dNil)))) (dCallF 11 3 (dCons (dVar 0) (dCons (dVar 2) (dCons (dVar 3) dNil)))))) (sRet (dVar 3)) sNil))
    (sRet (dC .non)))
/-- _law_pen -/
noncomputable def dn_13 : DenS := (sSeq (sAsg (.nm 2) (dOp addD (dOp addD (dOp mulD (dOp mulD (dC (.int 50021)) (dVar 1)) (dVar 1)) (dOp mulD (dC (.int 977)) (dVar 1))) (dC (.int 5))))
    (sSeq (sIf (dBl (dOp ltD (dVar 1) (dCl lenD (dCons (dVar 0) dNil)))) (sAsg (.nm 2) (dOp ixD (dVar 0) (dVar 1))) (sIf (dBl (dOp gtD (dCl lenD (dCons (dVar 0) dNil)) (dC (.int 0)))) (sAsg (.nm 2) (dOp addD (dOp mulD (dOp modD (dOp ixD (dVar 0) (dOp modD (dVar 1) (dCl lenD (dCons (dVar 0) dNil)))) (dC (.int 2147483647))) (dOp addD (dVar 1) (dC (.int 3)))) (dOp mulD (dC (.int 7919)) (dVar 1)))) sNil))
    (sSeq (sIf (dBl (dOp geD (dCl absD (dCons (dVar 2) dNil)) (dOp powD (dC (.int 10)) (dC (.int 18))))) (sRet (dLst (dCons (dCl absD (dCons (dVar 2) dNil)) (dCons (dC (.int 0)) (dCons (dC (.int 0)) dNil))))) sNil)
    (sRet (dLst (dCons (dC (.int 0)) (dCons (dOp addD (dOp modD (dVar 2) (dC (.int 2147483629))) (dOp mulD (dC (.int 40013)) (dVar 1))) (dCons (dC (.int 0)) dNil))))))))
/-- _law_take -/
noncomputable def dn_14 : DenS := (sSeq (sSub (dVar 0) (dC (.int 2)) (dOp addD (dOp ixD (dVar 0) (dC (.int 2))) (dC (.int 1))))
    (sSeq (sIf (dBl (dOp gtD (dOp ixD (dVar 0) (dC (.int 0))) (dC (.int 0)))) (sSeq (sAsg (.nm 2) (dOp modD (dOp ixD (dVar 0) (dC (.int 0))) (dVar 1)))
    (sSeq (sSub (dVar 0) (dC (.int 0)) (dOp fdivD (dOp ixD (dVar 0) (dC (.int 0))) (dVar 1)))
    (sRet (dVar 2)))) sNil)
    (sSeq (sAsg (.nm 3) (dOp modD (dOp mulD (dOp addD (dOp addD (dOp ixD (dVar 0) (dC (.int 1))) (dOp mulD (dC (.int 69621)) (dOp ixD (dVar 0) (dC (.int 2))))) (dC (.int 3))) (dC (.int 48271))) (dC (.int 2147483647))))
    (sSeq (sAsg (.nm 3) (dOp modD (dOp addD (dOp addD (dOp mulD (dVar 3) (dVar 3)) (dOp mulD (dC (.int 16807)) (dOp ixD (dVar 0) (dC (.int 2))))) (dC (.int 7))) (dC (.int 2147483629))))
    (sRet (dOp modD (dOp fdivD (dOp modD (dOp mulD (dVar 3) (dOp addD (dOp modD (dVar 3) (dC (.int 65521))) (dC (.int 5)))) (dC (.int 2147483587))) (dC (.int 64))) (dVar 1)))))))
/-- _law_frame -/
noncomputable def dn_15 : DenS := (sSeq (sAsg (.nm 2) (dOp ixD (dLst (dCons (dC (.int 2)) (dCons (dC (.int 3)) (dCons (dC (.int 3)) (dCons (dC (.int 4)) (dCons (dC (.int 4)) (dCons (dC (.int 5)) (dCons (dC (.int 1)) (dCons (dC (.int 8)) (dCons (dC (.int 6)) (dCons (dC (.int 7)) dNil))))))))))) (dCallF 14 2 (dCons (dVar 0) (dCons (dC (.int 10)) dNil)))))
    (sSeq (sAsg (.nm 3) (dLst dNil))
    (sSeq (sFor (iRange1 (dCons (dVar 2) dNil)) (.nm 4) (sExpr (dMt extendD (dVar 3) (dCons (dLc (iRange2 (dCons (dOp addD (dVar 4) (dC (.int 1))) (dCons (dVar 2) dNil))) (.nm 8) tYesD (dTup (dCons (dVar 4) (dCons (dVar 8) dNil))) [8]) dNil))))
    (sSeq (sAsg (.nm 5) (dCl minD (dCons (dCl lenD (dCons (dVar 3) dNil)) (dCons (dCallF 14 2 (dCons (dVar 0) (dCons (dOp addD (dVar 1) (dC (.int 1))) dNil))) dNil))))
    (sSeq (sIf (dBl (dOp eqD (dCallF 14 2 (dCons (dVar 0) (dCons (dC (.int 3)) dNil))) (dC (.int 0)))) (sAsg (.nm 5) (dCl minD (dCons (dCl lenD (dCons (dVar 3) dNil)) (dCons (dVar 1) dNil)))) sNil)
    (sSeq (sAsg (.nm 6) (dLst dNil))
    (sSeq (sFor (iRange1 (dCons (dVar 5) dNil)) (.nm 7) (sExpr (dMt appendD (dVar 6) (dCons (dMt popAtD (dVar 3) (dCons (dCallF 14 2 (dCons (dVar 0) (dCons (dCl lenD (dCons (dVar 3) dNil)) dNil))) dNil)) dNil))))
    (sRet (dTup (dCons (dVar 2) (dCons (dCl tupleD (dCons (dCl sortedD (dCons (dVar 6) dNil)) dNil)) dNil)))))))))))
/-- _law_webs -/
noncomputable def dn_16 : DenS := (sSeq (sAsg (.nm 1) (dOp ixD (dVar 0) (dC (.int 1))))
    (sSeq (sAsg (.nm 2) (dLst dNil))
    (sSeq (sFor (iRange1 (dCons (dOp shlD (dC (.int 1)) (dCl lenD (dCons (dVar 1) dNil))) dNil)) (.nm 3) (sExpr (dMt appendD (dVar 2) (dCons (dCl tupleD (dCons (dLc (iRange1 (dCons (dCl lenD (dCons (dVar 1) dNil)) dNil)) (.nm 4) (dBl (dOp eqD (dOp andD (dOp shrD (dVar 3) (dVar 4)) (dC (.int 1))) (dC (.int 1)))) (dOp ixD (dVar 1) (dVar 4)) [4]) dNil)) dNil))))
    (sRet (dVar 2)))))
/-- _law_reached -/
noncomputable def dn_17 : DenS := (sSeq (sAsg (.nm 2) (dLst (dCons (dVar 1) dNil)))
    (sSeq (sAsg (.nm 3) (dC (.int 0)))
    (sSeq (sWhile 100000 (dBl (dOp ltD (dVar 3) (dCl lenD (dCons (dVar 2) dNil)))) (sSeq (sFor (iVal (dVar 0)) (.nm 4) (sIf (dAndT (dBl (dOp inD (dOp ixD (dVar 2) (dVar 3)) (dVar 4))) (dBl (dOp ninD (dOp subD (dCl sumD (dCons (dVar 4) dNil)) (dOp ixD (dVar 2) (dVar 3))) (dVar 2)))) (sExpr (dMt appendD (dVar 2) (dCons (dOp subD (dCl sumD (dCons (dVar 4) dNil)) (dOp ixD (dVar 2) (dVar 3))) dNil))) sNil))
    (sAsg (.nm 3) (dOp addD (dVar 3) (dC (.int 1))))))
    (sRet (dVar 2)))))
/-- _law_two_sides -/
noncomputable def dn_18 : DenS := (sSeq (sAsg (.nm 2) dDk0)
    (sSeq (sFor (iRange1 (dCons (dOp ixA (dVar 0) (dC (.int 0))) dNil)) (.nm 3) (sIf (dBl (dOp ninD (dVar 3) (dVar 2))) (sSeq (sSubW setA (dVar 2) (dVar 3) (dC (.int 0)))
    (sFor (iVal (dCallF 17 2 (dCons (dVar 1) (dCons (dVar 3) dNil)))) (.nm 4) (sFor (iVal (dVar 1)) (.nm 5) (sIf (dBl (dOp inD (dVar 4) (dVar 5))) (sExpr (dSd (dVar 2) (dOp subD (dCl sumD (dCons (dVar 5) dNil)) (dVar 4)) (dOp subD (dC (.int 1)) (dOp ixA (dVar 2) (dVar 4))))) sNil)))) sNil))
    (sRet (dOp eqD (dLc (iVal (dVar 1)) (.nm 5) (dBl (dOp eqD (dOp ixA (dVar 2) (dOp ixA (dVar 5) (dC (.int 0)))) (dOp ixA (dVar 2) (dOp ixA (dVar 5) (dC (.int 1)))))) (dVar 5) [5]) (dLst dNil)))))
/-- _law_facts -/
noncomputable def dn_19 : DenS := (sSeq (sAsg (.nm 2) (dLc (iRange1 (dCons (dOp ixD (dVar 0) (dC (.int 0))) dNil)) (.nm 9) tYesD (dCl sortID (dCons (dCallF 17 2 (dCons (dVar 1) (dCons (dVar 9) dNil))) dNil)) [9]))
    (sSeq (sAsg (.nm 3) (dLc (iRange1 (dCons (dOp ixD (dVar 0) (dC (.int 0))) dNil)) (.nm 9) tYesD (dCl lenD (dCons (dLc (iVal (dVar 1)) (.nm 10) (dBl (dOp inD (dVar 9) (dVar 10))) (dVar 10) [10]) dNil)) [9]))
    (sSeq (sAsg (.nm 4) (dCl lenD (dCons (dLc (iRange1 (dCons (dOp ixD (dVar 0) (dC (.int 0))) dNil)) (.nm 9) (dBl (dOp eqD (dOp ixD (dOp ixD (dVar 2) (dVar 9)) (dC (.int 0))) (dVar 9))) (dVar 9) [9]) dNil)))
    (sSeq (sAsg (.nm 5) (dDisp (pCons (dC (.str "joined")) (dOp eqD (dVar 4) (dC (.int 1))) (pCons (dC (.str "ring")) (dOp gtD (dCl lenD (dCons (dVar 1) dNil)) (dOp subD (dOp ixD (dVar 0) (dC (.int 0))) (dVar 4))) (pCons (dC (.str "odd")) (dOp eqD (dOp modD (dCl lenD (dCons (dVar 1) dNil)) (dC (.int 2))) (dC (.int 1))) pNil)))))
    (sSeq (sSubW putKD (dVar 5) (dC (.str "hub")) (dOp inD (dOp subD (dOp ixD (dVar 0) (dC (.int 0))) (dC (.int 1))) (dVar 3)))
    (sSeq (sSubW putKD (dVar 5) (dC (.str "lone")) (dOp inD (dC (.int 0)) (dVar 3)))
    (sSeq (sSubW putKD (dVar 5) (dC (.str "sides")) (dCallF 18 2 (dCons (dVar 0) (dCons (dVar 1) dNil))))
    (sSeq (sSubW putKD (dVar 5) (dC (.str "three")) (dC (.bl false)))
    (sSeq (sFor (iVal (dVar 1)) (.tp [6, 7]) (sFor (iRange2 (dCons (dOp addD (dVar 7) (dC (.int 1))) (dCons (dOp ixD (dVar 0) (dC (.int 0))) dNil))) (.nm 8) (sSubW putKD (dVar 5) (dC (.str "three")) (dOrV (dOp getKD (dVar 5) (dC (.str "three"))) (dAndV (dOp inD (dTup (dCons (dVar 6) (dCons (dVar 8) dNil))) (dVar 1)) (dOp inD (dTup (dCons (dVar 7) (dCons (dVar 8) dNil))) (dVar 1)))))))
    (sRet (dDisp (pCons (dC (.str "lots")) (dVar 2) (pCons (dC (.str "many")) (dVar 3) (pCons (dC (.str "words")) (dVar 5) (pCons (dC (.str "web")) (dVar 1) pNil)))))))))))))))
/-- _law_plain -/
noncomputable def dn_20 : DenS := (sSeq (sAsg (.nm 2) (dOp ixA (dVar 1) (dC (.int 0))))
    (sSeq (sIf (dBl (dOp eqD (dVar 2) (dC (.str "tie")))) (sRet (dOp inD (dSl (dVar 1) (some (dC (.int 1))) none) (dOp getKD (dVar 0) (dC (.str "web"))))) sNil)
    (sSeq (sIf (dBl (dOp eqD (dVar 2) (dC (.str "way")))) (sRet (dOp inD (dOp ixA (dVar 1) (dC (.int 2))) (dOp ixA (dOp getKD (dVar 0) (dC (.str "lots"))) (dOp ixA (dVar 1) (dC (.int 1)))))) sNil)
    (sSeq (sIf (dBl (dOp eqD (dVar 2) (dC (.str "many")))) (sRet (dOp geD (dCl lenD (dCons (dOp getKD (dVar 0) (dC (.str "web"))) dNil)) (dOp ixA (dVar 1) (dC (.int 1))))) sNil)
    (sSeq (sIf (dBl (dOp eqD (dVar 2) (dC (.str "ends")))) (sRet (dOp geD (dOp ixA (dOp getKD (dVar 0) (dC (.str "many"))) (dOp ixA (dVar 1) (dC (.int 1)))) (dOp ixA (dVar 1) (dC (.int 2))))) sNil)
    (sRet (dOp ixA (dOp getKD (dVar 0) (dC (.str "words"))) (dVar 2))))))))
/-- _law_all_facts -/
noncomputable def dn_21 : DenS := (sRet (dLc (iVal (dCallF 16 1 (dCons (dVar 0) dNil))) (.nm 1) tYesD (dCallF 19 2 (dCons (dVar 0) (dCons (dVar 1) dNil))) [1]))
/-- _law_table -/
noncomputable def dn_22 : DenS := (sSeq (sAsg (.nm 2) (dOp ixD (dVar 1) (dC (.int 0))))
    (sSeq (sIf (dBl (dOp eqD (dVar 2) (dC (.str "told")))) (sRet (dCl listD (dCons (dOp ixD (dVar 1) (dC (.int 1))) dNil))) sNil)
    (sSeq (sIf (dBl (dOp inD (dVar 2) (dTup (dCons (dC (.str "not")) (dCons (dC (.str "missing")) dNil))))) (sSeq (sAsg (.nm 3) (dCallF 22 2 (dCons (dVar 0) (dCons (dOp ixD (dVar 1) (dC (.int 1))) dNil))))
    (sSeq (sIf (dBl (dOp eqD (dVar 2) (dC (.str "missing")))) (sRet (dUn revD (dVar 3))) sNil)
    (sRet (dLc (iVal (dVar 3)) (.nm 5) tYesD (dUn notD (dVar 5)) [5])))) sNil)
    (sSeq (sIf (dBl (dOp ninD (dVar 2) (dTup (dCons (dC (.str "both")) (dCons (dC (.str "either")) (dCons (dC (.str "one")) dNil)))))) (sRet (dLc (iVal (dVar 0)) (.nm 6) tYesD (dCallF 20 2 (dCons (dVar 6) (dCons (dVar 1) dNil))) [6])) sNil)
    (sSeq (sAsg (.nm 4) (dLZ (dCons (dCallF 22 2 (dCons (dVar 0) (dCons (dOp ixD (dVar 1) (dC (.int 1))) dNil))) (dCons (dCallF 22 2 (dCons (dVar 0) (dCons (dOp ixD (dVar 1) (dC (.int 2))) dNil))) dNil))))
    (sSeq (sIf (dBl (dOp eqD (dVar 2) (dC (.str "both")))) (sRet (dLc (iVal (dVar 4)) (.tp [6, 7]) tYesD (dAndV (dVar 6) (dVar 7)) [6, 7])) sNil)
    (sSeq (sIf (dBl (dOp eqD (dVar 2) (dC (.str "either")))) (sRet (dLc (iVal (dVar 4)) (.tp [6, 7]) tYesD (dOrV (dVar 6) (dVar 7)) [6, 7])) sNil)
    (sRet (dLc (iVal (dVar 4)) (.tp [6, 7]) tYesD (dOp neD (dVar 6) (dVar 7)) [6, 7])))))))))
/-- _law_plain_wish -/
noncomputable def dn_23 : DenS := (sSeq (sAsg (.tp [2, 3]) (dVar 1))
    (sSeq (sAsg (.nm 4) (dLst (dCons (dC (.str "odd")) (dCons (dC (.str "joined")) (dCons (dC (.str "ring")) (dCons (dC (.str "three")) (dCons (dC (.str "hub")) (dCons (dC (.str "lone")) (dCons (dC (.str "sides")) (dCons (dC (.str "many")) (dCons (dC (.str "ends")) (dCons (dC (.str "told")) (dCons (dC (.str "tie")) (dCons (dC (.str "way")) dNil))))))))))))))
    (sSeq (sAsg (.nm 4) (dOp ixD (dVar 4) (dCallF 14 2 (dCons (dVar 0) (dCons (dC (.int 12)) dNil)))))
    (sSeq (sIf (dBl (dOp eqD (dVar 4) (dC (.str "many")))) (sRet (dTup (dCons (dVar 4) (dCons (dOp ixD (dLst (dCons (dCallF 14 2 (dCons (dVar 0) (dCons (dC (.int 9)) dNil))) (dCons (dC (.int 99)) dNil))) (dCl intD (dCons (dOp eqD (dCallF 14 2 (dCons (dVar 0) (dCons (dC (.int 16)) dNil))) (dC (.int 5))) dNil))) dNil)))) sNil)
    (sSeq (sIf (dBl (dOp eqD (dVar 4) (dC (.str "ends")))) (sRet (dTup (dCons (dVar 4) (dCons (dCallF 14 2 (dCons (dVar 0) (dCons (dVar 2) dNil))) (dCons (dOp ixD (dLst (dCons (dCallF 14 2 (dCons (dVar 0) (dCons (dC (.int 5)) dNil))) (dCons (dC (.int 99)) dNil))) (dCl intD (dCons (dOp eqD (dCallF 14 2 (dCons (dVar 0) (dCons (dC (.int 16)) dNil))) (dC (.int 5))) dNil))) dNil))))) sNil)
    (sSeq (sIf (dBl (dOp eqD (dVar 4) (dC (.str "told")))) (sRet (dTup (dCons (dVar 4) (dCons (dCl tupleD (dCons (dLc (iRange1 (dCons (dOp shlD (dC (.int 1)) (dCl lenD (dCons (dVar 3) dNil))) dNil)) (.nm 6) tYesD (dOp eqD (dCallF 14 2 (dCons (dVar 0) (dCons (dC (.int 2)) dNil))) (dC (.int 1))) [6]) dNil)) dNil)))) sNil)
    (sSeq (sIf (dAndT (dBl (dOp eqD (dVar 4) (dC (.str "tie")))) (dBl (dOp neD (dVar 3) (dTup dNil)))) (sRet (dOp addD (dTup (dCons (dVar 4) dNil)) (dOp ixD (dVar 3) (dCallF 14 2 (dCons (dVar 0) (dCons (dCl lenD (dCons (dVar 3) dNil)) dNil)))))) sNil)
    (sSeq (sIf (dAndT (dBl (dOp inD (dVar 4) (dTup (dCons (dC (.str "tie")) (dCons (dC (.str "way")) dNil))))) (dBl (dOp gtD (dVar 2) (dC (.int 1))))) (sSeq (sAsg (.nm 5) (dCallF 14 2 (dCons (dVar 0) (dCons (dOp subD (dVar 2) (dC (.int 1))) dNil))))
    (sRet (dTup (dCons (dC (.str "way")) (dCons (dVar 5) (dCons (dOp addD (dOp addD (dVar 5) (dC (.int 1))) (dCallF 14 2 (dCons (dVar 0) (dCons (dOp subD (dOp subD (dVar 2) (dC (.int 1))) (dVar 5)) dNil)))) dNil)))))) sNil)
    (sRet (dTup (dCons (dOp ixD (dLst (dCons (dVar 4) (dCons (dC (.str "odd")) dNil))) (dCl intD (dCons (dOp inD (dVar 4) (dTup (dCons (dC (.str "tie")) (dCons (dC (.str "way")) dNil)))) dNil))) dNil)))))))))))
/-- _law_wish -/
noncomputable def dn_24 : DenS := (sSeq (sAsg (.nm 3) (dCallF 14 2 (dCons (dVar 0) (dCons (dC (.int 8)) dNil))))
    (sSeq (sIf (dOrT (dBl (dOp ltD (dVar 2) (dC (.int 2)))) (dBl (dOp gtD (dVar 3) (dC (.int 5))))) (sRet (dCallF 23 2 (dCons (dVar 0) (dCons (dVar 1) dNil)))) sNil)
    (sSeq (sIf (dOrT (dBl (dOp ltD (dVar 2) (dC (.int 3)))) (dBl (dOp ltD (dVar 3) (dC (.int 2))))) (sRet (dTup (dCons (dOp ixD (dLst (dCons (dC (.str "not")) (dCons (dC (.str "missing")) dNil))) (dCallF 14 2 (dCons (dVar 0) (dCons (dC (.int 2)) dNil)))) (dCons (dCallF 24 3 (dCons (dVar 0) (dCons (dVar 1) (dCons (dOp subD (dVar 2) (dC (.int 1))) dNil)))) dNil)))) sNil)
    (sSeq (sAsg (.nm 4) (dOp addD (dC (.int 1)) (dCallF 14 2 (dCons (dVar 0) (dCons (dOp subD (dVar 2) (dC (.int 2))) dNil)))))
    (sSeq (sAsg (.nm 5) (dCallF 24 3 (dCons (dVar 0) (dCons (dVar 1) (dCons (dVar 4) dNil)))))
    (sRet (dTup (dCons (dOp ixD (dLst (dCons (dC (.str "both")) (dCons (dC (.str "either")) (dCons (dC (.str "one")) dNil)))) (dCallF 14 2 (dCons (dVar 0) (dCons (dC (.int 3)) dNil)))) (dCons (dVar 5) (dCons (dCallF 24 3 (dCons (dVar 0) (dCons (dVar 1) (dCons (dOp subD (dOp subD (dVar 2) (dC (.int 1))) (dVar 4)) dNil)))) dNil))))))))))
/-- _law_beside -/
noncomputable def dn_25 : DenS := (sSeq (sAsg (.nm 4) (dLst (dCons (dVar 2) (dCons (dTup (dCons (dC (.str "not")) (dCons (dTup (dCons (dC (.str "not")) (dCons (dVar 2) dNil))) dNil))) (dCons (dTup (dCons (dC (.str "missing")) (dCons (dTup (dCons (dC (.str "missing")) (dCons (dVar 2) dNil))) dNil))) (dCons (dTup (dCons (dC (.str "not")) (dCons (dVar 2) dNil))) dNil))))))
    (sSeq (sExpr (dMt appendD (dVar 4) (dCons (dTup (dCons (dC (.str "not")) (dCons (dTup (dCons (dC (.str "both")) (dCons (dTup (dCons (dC (.str "not")) (dCons (dVar 2) dNil))) (dCons (dTup (dCons (dC (.str "not")) (dCons (dVar 2) dNil))) dNil)))) dNil))) dNil)))
    (sSeq (sExpr (dMt appendD (dVar 4) (dCons (dTup (dCons (dC (.str "told")) (dCons (dCl tupleD (dCons (dVar 3) dNil)) dNil))) dNil)))
    (sSeq (sAsg (.nm 5) (dCl listD (dCons (dVar 3) dNil)))
    (sSeq (sFor (iRange1 (dCons (dC (.int 2)) dNil)) (.nm 6) (sSeq (sAsg (.nm 7) (dCallF 14 2 (dCons (dVar 0) (dCons (dCl lenD (dCons (dVar 5) dNil)) dNil))))
    (sSeq (sSub (dVar 5) (dVar 7) (dUn notD (dOp ixD (dVar 5) (dVar 7))))
    (sExpr (dMt appendD (dVar 4) (dCons (dTup (dCons (dC (.str "told")) (dCons (dCl tupleD (dCons (dVar 5) dNil)) dNil))) dNil))))))
    (sSeq (sAsg (.nm 8) (dOp addD (dSl (dVar 3) none (some (dUn negD (dC (.int 1))))) (dLst (dCons (dUn notD (dOp ixD (dVar 3) (dUn negD (dC (.int 1))))) dNil))))
    (sRet (dOp addD (dVar 4) (dLst (dCons (dTup (dCons (dC (.str "told")) (dCons (dCl tupleD (dCons (dVar 8) dNil)) dNil))) (dCons (dCallF 24 3 (dCons (dVar 0) (dCons (dVar 1) (dCons (dC (.int 3)) dNil)))) (dCons (dTup (dCons (dC (.str "one")) (dCons (dVar 2) (dCons (dVar 2) dNil)))) dNil))))))))))))
/-- law -/
noncomputable def dn_26 : DenS := (sSeq (sFor (iRange1 (dCons (dCl maxD (dCons (dC (.int 2)) (dCons (dCl minD (dCons (dC (.int 3)) (dCons (dCl lenD (dCons (dVar 0) dNil)) dNil))) dNil))) dNil)) (.nm 1) (sSeq (sAsg (.nm 2) (dCallF 13 2 (dCons (dVar 0) (dCons (dVar 1) dNil))))
    (sSeq (sAsg (.nm 3) (dCallF 15 2 (dCons (dVar 2) (dCons (dOp ixD (dLst (dCons (dC (.int 4)) (dCons (dC (.int 5)) (dCons (dC (.int 3)) (dCons (dC (.int 5)) (dCons (dC (.int 4)) (dCons (dC (.int 2)) (dCons (dC (.int 7)) (dCons (dC (.int 6)) dNil))))))))) (dCallF 14 2 (dCons (dVar 2) (dCons (dC (.int 8)) dNil)))) dNil))))
    (sSeq (sAsg (.nm 4) (dCallF 16 1 (dCons (dVar 3) dNil)))
    (sSeq (sAsg (.nm 5) (dCallF 21 1 (dCons (dVar 3) dNil)))
    (sSeq (sAsg (.nm 6) (dCallF 24 3 (dCons (dVar 2) (dCons (dVar 3) (dCons (dC (.int 4)) dNil)))))
    (sSeq (sAsg (.nm 7) (dCallF 22 2 (dCons (dVar 5) (dCons (dVar 6) dNil))))
    (sFor (iVal (dCallF 25 4 (dCons (dVar 2) (dCons (dVar 3) (dCons (dVar 6) (dCons (dVar 7) dNil)))))) (.nm 8) (sSeq (sAsg (.nm 9) (dLZ3 (dCons (dVar 4) (dCons (dVar 7) (dCons (dCallF 22 2 (dCons (dVar 5) (dCons (dVar 8) dNil))) dNil)))))
    (sSeq (sAsg (.nm 10) (dOp ixD (dOp addD (dLc (iVal (dVar 9)) (.tp [13, 14, 15]) (dBl (dOp neD (dVar 14) (dVar 15))) (dVar 13) [13, 14, 15]) (dLst (dCons (dC .non) dNil))) (dC (.int 0))))
    (sSeq (sAsg (.nm 11) (dCl reprD (dCons (dTup (dCons (dVar 3) (dCons (dVar 6) (dCons (dVar 8) dNil)))) dNil)))
    (sSeq (sAsg (.nm 12) (dCallF 12 3 (dCons (dVar 3) (dCons (dVar 6) (dCons (dVar 8) dNil)))))
    (sSeq (sIf (dOrT (dBl (dOp neD (dCl reprD (dCons (dVar 12) dNil)) (dCl reprD (dCons (dVar 10) dNil)))) (dBl (dOp neD (dCl reprD (dCons (dCallF 12 3 (dCons (dVar 3) (dCons (dVar 8) (dCons (dVar 6) dNil)))) dNil)) (dCl reprD (dCons (dVar 10) dNil))))) (sRet (dC (.bl false))) sNil)
    (sIf (dBl (dOp neD (dCl reprD (dCons (dTup (dCons (dVar 3) (dCons (dVar 6) (dCons (dVar 8) dNil)))) dNil)) (dVar 11))) (sRet (dC (.bl false))) sNil))))))))))))))
    (sRet (dC (.bl true))))
noncomputable def bodies : Bodies := [(dn_0, 4), (dn_1, 5), (dn_2, 3), (dn_3, 5), (dn_4, 6), (dn_5, 6), (dn_6, 6), (dn_7, 8), (dn_8, 5), (dn_9, 4), (dn_10, 4), (dn_11, 4), (dn_12, 4), (dn_13, 3), (dn_14, 4), (dn_15, 9), (dn_16, 5), (dn_17, 5), (dn_18, 6), (dn_19, 11), (dn_20, 3), (dn_21, 2), (dn_22, 8), (dn_23, 7), (dn_24, 6), (dn_25, 9), (dn_26, 16)]
def top (i : Nat) : Stmt := PySem.Challenge.pw_allasked_k15_the_first_web_unlike.main.body.getD i (.Pass ⟨0, 0, 0, 0⟩)
abbrev Fs (ff : Nat → Addr) (fd : Nat → FuncData) : List FnE := [⟨"webs", ff 0, fd 0, ["frame"]⟩, ⟨"number_of", ff 1, fd 1, ["frame", "web"]⟩, ⟨"missing", ff 2, fd 2, ["frame", "web"]⟩, ⟨"near", ff 3, fd 3, ["web", "place"]⟩, ⟨"ways_from", ff 4, fd 4, ["web", "start"]⟩, ⟨"pieces", ff 5, fd 5, ["frame", "web"]⟩, ⟨"ring_of", ff 6, fd 6, ["frame", "web"]⟩, ⟨"sides_of", ff 7, fd 7, ["frame", "web"]⟩, ⟨"has_three", ff 8, fd 8, ["web"]⟩, ⟨"has_shape", ff 9, fd 9, ["frame", "word", "web"]⟩, ⟨"has_simple", ff 10, fd 10, ["frame", "wish", "web"]⟩, ⟨"has", ff 11, fd 11, ["frame", "wish", "web"]⟩, ⟨"first_unlike", ff 12, fd 12, ["frame", "wish", "other"]⟩, ⟨"_law_pen", ff 13, fd 13, ["_law_script", "_law_k"]⟩, ⟨"_law_take", ff 14, fd 14, ["_law_pen_here", "_law_many"]⟩, ⟨"_law_frame", ff 15, fd 15, ["_law_pen_here", "_law_most"]⟩, ⟨"_law_webs", ff 16, fd 16, ["_law_frame_here"]⟩, ⟨"_law_reached", ff 17, fd 17, ["_law_web", "_law_place"]⟩, ⟨"_law_two_sides", ff 18, fd 18, ["_law_frame_here", "_law_web"]⟩, ⟨"_law_facts", ff 19, fd 19, ["_law_frame_here", "_law_web"]⟩, ⟨"_law_plain", ff 20, fd 20, ["_law_facts_here", "_law_wish_here"]⟩, ⟨"_law_all_facts", ff 21, fd 21, ["_law_frame_here"]⟩, ⟨"_law_table", ff 22, fd 22, ["_law_facts_here", "_law_wish_here"]⟩, ⟨"_law_plain_wish", ff 23, fd 23, ["_law_pen_here", "_law_frame_here"]⟩, ⟨"_law_wish", ff 24, fd 24, ["_law_pen_here", "_law_frame_here", "_law_room"]⟩, ⟨"_law_beside", ff 25, fd 25, ["_law_pen_here", "_law_frame_here", "_law_wish_here", "_law_truths"]⟩, ⟨"law", ff 26, fd 26, ["_law_script"]⟩]
abbrev Tabs (tP : Nat → Addr) : List Addr := [tP 2, tP 5, tP 7, tP 8, tP 9]
structure Fa (K : PySem.W.Frag) (mg : Str → Option Value) (base : Heap) (ff : Nat → Addr) (fd : Nat → FuncData) (cc tP : Nat → Addr) : Prop where
  b_abs : mg "abs" = none
  b_any : mg "any" = none
  b_int : mg "int" = none
  b_len : mg "len" = none
  b_list : mg "list" = none
  b_max : mg "max" = none
  b_min : mg "min" = none
  b_range : mg "range" = none
  b_repr : mg "repr" = none
  b_sorted : mg "sorted" = none
  b_sum : mg "sum" = none
  b_tuple : mg "tuple" = none
  b_zip : mg "zip" = none
  T : FnsOk K mg (Fs ff fd)
  tb_2 : LamX.TabB base mg (cc 2) (tP 2)
  tm_2 : tP 2 ∈ Tabs tP
  tb_5 : LamX.TabB base mg (cc 5) (tP 5)
  tm_5 : tP 5 ∈ Tabs tP
  tb_7 : LamX.TabB base mg (cc 7) (tP 7)
  tm_7 : tP 7 ∈ Tabs tP
  tb_8 : LamX.TabB base mg (cc 8) (tP 8)
  tm_8 : tP 8 ∈ Tabs tP
  tb_9 : LamX.TabB base mg (cc 9) (tP 9)
  tm_9 : tP 9 ∈ Tabs tP
section
variable {P : Program} {w : World} {K : PySem.W.Frag} {mg : Str → Option Value} {base : Heap} {ff : Nat → Addr} {fd : Nat → FuncData} {cc tP : Nat → Addr}
abbrev nm_0 : List Str := ["frame", "found", "tie", "web"]
theorem nd_0 : nm_0.Nodup := by decide +kernel
abbrev st_0 : Stmt := top 1
theorem sc_0 : FnScope nm_0 ["frame"] (defScope st_0) := ⟨rfl, rfl, rfl, nd_0, rfl, by decide +kernel, by decide +kernel⟩
theorem bd_0 (F : Fa K mg base ff fd cc tP) {k : Nat} {lv : Lv} (L : LvOk P w K mg base CX0 ⟨K, Tabs tP⟩ none (Fs ff fd) (k + 1) lv) {f : Addr} {cdv : Value} {A : Around} {outer : List PySem.Env} {s : Shared} {H : Hp} {E : XK}
    (hr : Gr.RoomG (k + 1) (A.deeper (envOfC "webs" (defScope st_0) s.heap.objs.size f cdv))) : PSs (cxOf CX0 P w K mg base nm_0 "webs" (defScope st_0) f cdv A outer s H E).nox (defBody st_0) (semS ⟨K, Tabs tP⟩ noE lv dn_0) :=
  (sd_cons (zasg (pd_lst (xcons (pd_tup pd_nil) pd_nil)) (gname 1 nd_0 (.inl rfl) (.inl rfl)))
    (sd_cons (zfor PassesOwn.never (id_val (xix (xv 0 (.inl rfl)) xint)) (gname 2 nd_0 (.inr rfl) (.inl rfl)) (sd_one (zasg (pd_op opd_add (xv 1 (.inl rfl)) (xlc [("web", 3)] nd_0 (id_val (xv 1 (.inl rfl))) (show BlkOk nm_0 (defScope st_0) _ [("web", 3)] from ⟨rfl, by decide +kernel, by decide +kernel, by decide +kernel, by decide +kernel⟩) ⟨fun _ _ _ _ _ => (gname 3 nd_0 (.inl rfl) (.inr rfl)), fun _ _ _ _ _ => ptsYes, fun _ _ _ _ _ => (pd_op opd_add (xv 3 (.inl rfl)) (pd_tup (xcons (xv 2 (.inr (.inl rfl))) pd_nil)))⟩)) (gname 1 nd_0 (.inl rfl) (.inl rfl)))))
    (sd_one (sd_ret (xv 1 (.inl rfl))))))
abbrev nm_1 : List Str := ["frame", "web", "number", "weight", "tie"]
theorem nd_1 : nm_1.Nodup := by decide +kernel
abbrev st_1 : Stmt := top 2
theorem sc_1 : FnScope nm_1 ["frame", "web"] (defScope st_1) := ⟨rfl, rfl, rfl, nd_1, rfl, by decide +kernel, by decide +kernel⟩
theorem bd_1 (F : Fa K mg base ff fd cc tP) {k : Nat} {lv : Lv} (L : LvOk P w K mg base CX0 ⟨K, Tabs tP⟩ none (Fs ff fd) (k + 1) lv) {f : Addr} {cdv : Value} {A : Around} {outer : List PySem.Env} {s : Shared} {H : Hp} {E : XK}
    (hr : Gr.RoomG (k + 1) (A.deeper (envOfC "number_of" (defScope st_1) s.heap.objs.size f cdv))) : PSs (cxOf CX0 P w K mg base nm_1 "number_of" (defScope st_1) f cdv A outer s H E).nox (defBody st_1) (semS ⟨K, Tabs tP⟩ noE lv dn_1) :=
  (sd_cons (zasg xint (gname 2 nd_1 (.inl rfl) (.inl rfl)))
    (sd_cons (zasg xint (gname 3 nd_1 (.inl rfl) (.inl rfl)))
    (sd_cons (zfor PassesOwn.never (id_val (xix (xv 0 (.inl rfl)) xint)) (gname 4 nd_1 (.inl rfl) (.inl rfl)) (sd_cons (sd_if (ycmpI (opd_in (units66 hr)) (xv 4 (.inl rfl)) (xv 1 (.inl rfl))) (sd_one (zaug 2 nd_1 ipd_addI (xv 3 (.inl rfl)))) sd_nil)
    (sd_one (zaug 3 nd_1 ipd_mulI xint))))
    (sd_one (sd_ret (xv 2 (.inl rfl)))))))
abbrev nm_2 : List Str := ["frame", "web", "tie"]
theorem nd_2 : nm_2.Nodup := by decide +kernel
abbrev st_2 : Stmt := top 3
theorem sc_2 : FnScope nm_2 ["frame", "web"] (defScope st_2) := ⟨rfl, rfl, rfl, nd_2, rfl, by decide +kernel, by decide +kernel⟩
theorem bd_2 (F : Fa K mg base ff fd cc tP) {k : Nat} {lv : Lv} (L : LvOk P w K mg base CX0 ⟨K, Tabs tP⟩ none (Fs ff fd) (k + 1) lv) {f : Addr} {A : Around} {outer : List PySem.Env} {s : Shared} {H : Hp} {E : XK}
    (hr : Gr.RoomG (k + 1) (A.deeper (envOfC "missing" (defScope st_2) s.heap.objs.size f (.ref (cc 2))))) : PSs (cxOf CX0 P w K mg base nm_2 "missing" (defScope st_2) f (.ref (cc 2)) A outer s H E).nox (defBody st_2) (semS ⟨K, Tabs tP⟩ noE lv dn_2) :=
  (sd_one (sd_ret (pd_tupleG (own := [("tie", 2)]) F.tm_2 (by decide) hr rfl F.b_tuple nd_2 F.tb_2 rfl (show Gx.GScp nm_2 (defScope st_2) _ [("tie", 2)] from ⟨(show BlkOk nm_2 (defScope st_2) _ [("tie", 2)] from ⟨rfl, by decide +kernel, by decide +kernel, by decide +kernel, by decide +kernel⟩), rfl, by decide +kernel, rfl⟩) (id_val (xix (xv 0 (.inl rfl)) xint)) ⟨fun _ _ _ _ _ _ _ _ hr2 => (gname 2 nd_2 (.inl rfl) (.inr rfl)), fun _ _ _ _ _ _ _ _ hr2 => (pts_one (ycmpI (opd_nin (units66 hr2)) (xv 2 (.inl rfl)) (xv 1 (.inr (.inr rfl))))), fun _ _ _ _ _ _ _ _ hr2 => (xv 2 (.inl rfl))⟩ (fun _ => rfl))))
abbrev nm_3 : List Str := ["web", "place", "found", "a", "b"]
theorem nd_3 : nm_3.Nodup := by decide +kernel
abbrev st_3 : Stmt := top 5
theorem sc_3 : FnScope nm_3 ["web", "place"] (defScope st_3) := ⟨rfl, rfl, rfl, nd_3, rfl, by decide +kernel, by decide +kernel⟩
theorem bd_3 (F : Fa K mg base ff fd cc tP) {k : Nat} {lv : Lv} (L : LvOk P w K mg base CX0 ⟨K, Tabs tP⟩ none (Fs ff fd) (k + 1) lv) {f : Addr} {cdv : Value} {A : Around} {outer : List PySem.Env} {s : Shared} {H : Hp} {E : XK}
    (hr : Gr.RoomG (k + 1) (A.deeper (envOfC "near" (defScope st_3) s.heap.objs.size f cdv))) : PSs (cxOf CX0 P w K mg base nm_3 "near" (defScope st_3) f cdv A outer s H E).nox (defBody st_3) (semS ⟨K, Tabs tP⟩ noE lv dn_3) :=
  (sd_cons (zasg (pd_lst pd_nil) (gname 2 nd_3 (.inl rfl) (.inl rfl)))
    (sd_cons (zfor PassesOwn.never (id_val (xv 0 (.inl rfl))) (gtup (gcons (gname 3 nd_3 (.inl rfl) (.inl rfl)) (gcons (gname 4 nd_3 (.inl rfl) (.inl rfl)) gds_nil))) (sd_cons (sd_if (ycmp (opd_eq hr.units) (xv 3 (.inl rfl)) (xv 1 (.inl rfl))) (sd_one (zexpr (st := sNil) (xmt PySem.F.slot_list_append PySem.F.type_list_append mtd_append (xv 2 (.inl rfl)) (xcons (xv 4 (.inl rfl)) pd_nil)))) sd_nil)
    (sd_one (sd_if (ycmp (opd_eq hr.units) (xv 4 (.inl rfl)) (xv 1 (.inl rfl))) (sd_one (zexpr (st := sNil) (xmt PySem.F.slot_list_append PySem.F.type_list_append mtd_append (xv 2 (.inl rfl)) (xcons (xv 3 (.inl rfl)) pd_nil)))) sd_nil))))
    (sd_one (sd_ret (xv 2 (.inl rfl))))))
abbrev nm_4 : List Str := ["web", "start", "ways", "waiting", "place", "other"]
theorem nd_4 : nm_4.Nodup := by decide +kernel
abbrev st_4 : Stmt := top 6
theorem sc_4 : FnScope nm_4 ["web", "start"] (defScope st_4) := ⟨rfl, rfl, rfl, nd_4, rfl, by decide +kernel, by decide +kernel⟩
theorem bd_4 (F : Fa K mg base ff fd cc tP) {k : Nat} {lv : Lv} (L : LvOk P w K mg base CX0 ⟨K, Tabs tP⟩ none (Fs ff fd) (k + 1) lv) {f : Addr} {cdv : Value} {A : Around} {outer : List PySem.Env} {s : Shared} {H : Hp} {E : XK}
    (hr : Gr.RoomG (k + 1) (A.deeper (envOfC "ways_from" (defScope st_4) s.heap.objs.size f cdv))) : PSs (cxOf CX0 P w K mg base nm_4 "ways_from" (defScope st_4) f cdv A outer s H E).nox (defBody st_4) (semS ⟨K, Tabs tP⟩ noE lv dn_4) :=
  (sd_cons (zasg (xdisp (pk_cons (xv 1 (.inl rfl)) (pd_lst (xcons (xv 1 (.inl rfl)) pd_nil)) pk_nil)) (gname 2 nd_4 (.inl rfl) (.inl rfl)))
    (sd_cons (zasg (pd_lst (xcons (xv 1 (.inl rfl)) pd_nil)) (gname 3 nd_4 (.inl rfl) (.inl rfl)))
    (sd_cons (sd_while PassesOwn.never (ytru (xv 3 (.inl rfl))) (sd_cons (zasg (xmt PySem.F.slot_list_pop PySem.F.type_list_pop mtd_pop (xv 3 (.inl rfl)) (xcons xint pd_nil)) (gname 4 nd_4 (.inl rfl) (.inl rfl)))
    (sd_one (zfor PassesOwn.never (id_val (xcall 3 L F.T hr pass_00 (fun _ => rfl) rfl rfl rfl (xcons (xv 0 (.inl rfl)) (xcons (xv 4 (.inl rfl)) pd_nil)))) (gname 5 nd_4 (.inl rfl) (.inl rfl)) (sd_one (sd_if (ycmpI (opd_nin (units66 hr)) (xv 5 (.inl rfl)) (xv 2 (.inl rfl))) (sd_cons (zsubA hr.units (xv 2 (.inl rfl)) (xv 5 (.inl rfl)) (pd_op opd_add (xixA hr.units (xv 2 (.inl rfl)) (xv 4 (.inl rfl))) (pd_lst (xcons (xv 5 (.inl rfl)) pd_nil))))
    (sd_one (zexpr (st := sNil) (xmt PySem.F.slot_list_append PySem.F.type_list_append mtd_append (xv 3 (.inl rfl)) (xcons (xv 5 (.inl rfl)) pd_nil))))) sd_nil))))))
    (sd_one (sd_ret (xv 2 (.inl rfl)))))))
abbrev nm_5 : List Str := ["frame", "web", "found", "ways", "place", "piece"]
theorem nd_5 : nm_5.Nodup := by decide +kernel
abbrev st_5 : Stmt := top 7
theorem sc_5 : FnScope nm_5 ["frame", "web"] (defScope st_5) := ⟨rfl, rfl, rfl, nd_5, rfl, by decide +kernel, by decide +kernel⟩
theorem bd_5 (F : Fa K mg base ff fd cc tP) {k : Nat} {lv : Lv} (L : LvOk P w K mg base CX0 ⟨K, Tabs tP⟩ none (Fs ff fd) (k + 1) lv) {f : Addr} {A : Around} {outer : List PySem.Env} {s : Shared} {H : Hp} {E : XK}
    (hr : Gr.RoomG (k + 1) (A.deeper (envOfC "pieces" (defScope st_5) s.heap.objs.size f (.ref (cc 5))))) : PSs (cxOf CX0 P w K mg base nm_5 "pieces" (defScope st_5) f (.ref (cc 5)) A outer s H E).nox (defBody st_5) (semS ⟨K, Tabs tP⟩ noE lv dn_5) :=
  (sd_cons (zasg (pd_lst pd_nil) (gname 2 nd_5 (.inl rfl) (.inl rfl)))
    (sd_cons (zfor PassesOwn.never (irng1 F.b_range (xcons (xix (xv 0 (.inl rfl)) xint) pd_nil)) (gname 4 nd_5 (.inr rfl) (.inl rfl)) (sd_one (sd_if (td_not (ytru (pd_any (own := [("piece", 5)]) F.tm_5 (by decide) hr rfl F.b_any nd_5 F.tb_5 rfl (show Gx.GScp nm_5 (defScope st_5) _ [("piece", 5)] from ⟨(show BlkOk nm_5 (defScope st_5) _ [("piece", 5)] from ⟨rfl, by decide +kernel, by decide +kernel, by decide +kernel, by decide +kernel⟩), rfl, by decide +kernel, rfl⟩) (id_val (xv 2 (.inl rfl))) ⟨fun _ _ _ _ _ _ _ _ hr2 => (gname 5 nd_5 (.inl rfl) (.inr rfl)), fun _ _ _ _ _ _ _ _ hr2 => ptsYes, fun _ _ _ _ _ _ _ _ hr2 => (xcmpI (opd_in (units66 hr2)) (xv 4 (.inr (.inr rfl))) (xv 5 (.inl rfl)))⟩ (fun _ => rfl)))) (sd_cons (zasg (xcall 4 L F.T hr pass_00 (fun _ => rfl) rfl rfl rfl (xcons (xv 1 (.inl rfl)) (xcons (xv 4 (.inr (.inl rfl))) pd_nil))) (gname 3 nd_5 (.inl rfl) (.inl rfl)))
    (sd_one (zexpr (st := sNil) (xmt PySem.F.slot_list_append PySem.F.type_list_append mtd_append (xv 2 (.inl rfl)) (xcons (xsk F.b_sorted (xv 3 (.inl rfl))) pd_nil))))) sd_nil)))
    (sd_one (sd_ret (xv 2 (.inl rfl))))))
abbrev nm_6 : List Str := ["frame", "web", "ahead", "a", "b", "way"]
theorem nd_6 : nm_6.Nodup := by decide +kernel
abbrev st_6 : Stmt := top 8
theorem sc_6 : FnScope nm_6 ["frame", "web"] (defScope st_6) := ⟨rfl, rfl, rfl, nd_6, rfl, by decide +kernel, by decide +kernel⟩
theorem bd_6 (F : Fa K mg base ff fd cc tP) {k : Nat} {lv : Lv} (L : LvOk P w K mg base CX0 ⟨K, Tabs tP⟩ none (Fs ff fd) (k + 1) lv) {f : Addr} {cdv : Value} {A : Around} {outer : List PySem.Env} {s : Shared} {H : Hp} {E : XK}
    (hr : Gr.RoomG (k + 1) (A.deeper (envOfC "ring_of" (defScope st_6) s.heap.objs.size f cdv))) : PSs (cxOf CX0 P w K mg base nm_6 "ring_of" (defScope st_6) f cdv A outer s H E).nox (defBody st_6) (semS ⟨K, Tabs tP⟩ noE lv dn_6) :=
  (sd_cons (zasg (pd_lst pd_nil) (gname 2 nd_6 (.inl rfl) (.inl rfl)))
    (sd_cons (zfor PassesOwn.never (id_val (xv 1 (.inl rfl))) (gtup (gcons (gname 3 nd_6 (.inl rfl) (.inl rfl)) (gcons (gname 4 nd_6 (.inl rfl) (.inl rfl)) gds_nil))) (sd_cons (zasg (xget hr.units (xcall 4 L F.T hr pass_00 (fun _ => rfl) rfl rfl rfl (xcons (xv 2 (.inl rfl)) (xcons (xv 3 (.inl rfl)) pd_nil))) (xv 4 (.inl rfl))) (gname 5 nd_6 (.inl rfl) (.inl rfl)))
    (sd_cons (sd_if (ycmp (opd_isn) (xv 5 (.inl rfl)) xnon) (sd_one (sd_ret (xv 5 (.inl rfl)))) sd_nil)
    (sd_one (zexpr (st := sNil) (xmt PySem.F.slot_list_append PySem.F.type_list_append mtd_append (xv 2 (.inl rfl)) (xcons (pd_tup (xcons (xv 3 (.inl rfl)) (xcons (xv 4 (.inl rfl)) pd_nil))) pd_nil)))))))
    (sd_one (sd_ret xnon))))
abbrev nm_7 : List Str := ["frame", "web", "piece", "ways", "place", "sides", "a", "b"]
theorem nd_7 : nm_7.Nodup := by decide +kernel
abbrev st_7 : Stmt := top 9
theorem sc_7 : FnScope nm_7 ["frame", "web"] (defScope st_7) := ⟨rfl, rfl, rfl, nd_7, rfl, by decide +kernel, by decide +kernel⟩
theorem bd_7 (F : Fa K mg base ff fd cc tP) {k : Nat} {lv : Lv} (L : LvOk P w K mg base CX0 ⟨K, Tabs tP⟩ none (Fs ff fd) (k + 1) lv) {f : Addr} {A : Around} {outer : List PySem.Env} {s : Shared} {H : Hp} {E : XK}
    (hr : Gr.RoomG (k + 1) (A.deeper (envOfC "sides_of" (defScope st_7) s.heap.objs.size f (.ref (cc 7))))) : PSs (cxOf CX0 P w K mg base nm_7 "sides_of" (defScope st_7) f (.ref (cc 7)) A outer s H E).nox (defBody st_7) (semS ⟨K, Tabs tP⟩ noE lv dn_7) :=
  (sd_cons (zasg (pd_op opd_mul (pd_lst (xcons xint pd_nil)) (xixA hr.units (xv 0 (.inl rfl)) xint)) (gname 5 nd_7 (.inr rfl) (.inl rfl)))
    (sd_cons (zfor PassesOwn.never (id_val (xcall 5 L F.T hr pass_00 (fun _ => rfl) rfl rfl rfl (xcons (xv 0 (.inl rfl)) (xcons (xv 1 (.inl rfl)) pd_nil)))) (gname 2 nd_7 (.inl rfl) (.inl rfl)) (sd_cons (zasg (xcall 4 L F.T hr pass_00 (fun _ => rfl) rfl rfl rfl (xcons (xv 1 (.inl rfl)) (xcons (xixA hr.units (xv 2 (.inl rfl)) xint) pd_nil))) (gname 3 nd_7 (.inl rfl) (.inl rfl)))
    (sd_one (zfor PassesOwn.never (id_val (xv 2 (.inl rfl))) (gname 4 nd_7 (.inl rfl) (.inl rfl)) (sd_one (zsubA hr.units (xv 5 (.inr (.inl rfl))) (xv 4 (.inl rfl)) (pd_op opd_mod (pd_op opd_sub (xlen F.b_len (xcons (xixA hr.units (xv 3 (.inl rfl)) (xv 4 (.inl rfl))) pd_nil)) xint) xint)))))))
    (sd_cons (sd_if (ytru (pd_any (own := [("a", 6), ("b", 7)]) F.tm_7 (by decide) hr rfl F.b_any nd_7 F.tb_7 rfl (show Gx.GScp nm_7 (defScope st_7) _ [("a", 6), ("b", 7)] from ⟨(show BlkOk nm_7 (defScope st_7) _ [("a", 6), ("b", 7)] from ⟨rfl, by decide +kernel, by decide +kernel, by decide +kernel, by decide +kernel⟩), rfl, by decide +kernel, rfl⟩) (id_val (xv 1 (.inl rfl))) ⟨fun _ _ _ _ _ _ _ _ hr2 => (gtup (gcons (gname 6 nd_7 (.inl rfl) (.inr rfl)) (gcons (gname 7 nd_7 (.inl rfl) (.inr rfl)) gds_nil))), fun _ _ _ _ _ _ _ _ hr2 => ptsYes, fun _ _ _ _ _ _ _ _ hr2 => (xcmp (opd_eq hr2.units) (xixA hr2.units (xv 5 (.inr (.inr rfl))) (xv 6 (.inl rfl))) (xixA hr2.units (xv 5 (.inr (.inr rfl))) (xv 7 (.inl rfl))))⟩ (fun _ => rfl))) (sd_one (sd_ret xnon)) sd_nil)
    (sd_one (sd_ret (xv 5 (.inr (.inl rfl))))))))
abbrev nm_8 : List Str := ["web", "a", "b", "others", "place"]
theorem nd_8 : nm_8.Nodup := by decide +kernel
abbrev st_8 : Stmt := top 11
theorem sc_8 : FnScope nm_8 ["web"] (defScope st_8) := ⟨rfl, rfl, rfl, nd_8, rfl, by decide +kernel, by decide +kernel⟩
theorem bd_8 (F : Fa K mg base ff fd cc tP) {k : Nat} {lv : Lv} (L : LvOk P w K mg base CX0 ⟨K, Tabs tP⟩ none (Fs ff fd) (k + 1) lv) {f : Addr} {A : Around} {outer : List PySem.Env} {s : Shared} {H : Hp} {E : XK}
    (hr : Gr.RoomG (k + 1) (A.deeper (envOfC "has_three" (defScope st_8) s.heap.objs.size f (.ref (cc 8))))) : PSs (cxOf CX0 P w K mg base nm_8 "has_three" (defScope st_8) f (.ref (cc 8)) A outer s H E).nox (defBody st_8) (semS ⟨K, Tabs tP⟩ noE lv dn_8) :=
  (sd_cons (zfor PassesOwn.never (id_val (xv 0 (.inl rfl))) (gtup (gcons (gname 1 nd_8 (.inl rfl) (.inl rfl)) (gcons (gname 2 nd_8 (.inl rfl) (.inl rfl)) gds_nil))) (sd_cons (zasg (xcall 3 L F.T hr pass_00 (fun _ => rfl) rfl rfl rfl (xcons (xv 0 (.inl rfl)) (xcons (xv 2 (.inl rfl)) pd_nil))) (gname 3 nd_8 (.inr rfl) (.inl rfl)))
    (sd_one (sd_if (ytru (pd_any (own := [("place", 4)]) F.tm_8 (by decide) hr rfl F.b_any nd_8 F.tb_8 rfl (show Gx.GScp nm_8 (defScope st_8) _ [("place", 4)] from ⟨(show BlkOk nm_8 (defScope st_8) _ [("place", 4)] from ⟨rfl, by decide +kernel, by decide +kernel, by decide +kernel, by decide +kernel⟩), rfl, by decide +kernel, rfl⟩) (id_val (xcall 3 L F.T hr pass_00 (fun _ => rfl) rfl rfl rfl (xcons (xv 0 (.inl rfl)) (xcons (xv 1 (.inl rfl)) pd_nil)))) ⟨fun _ _ _ _ _ _ _ _ hr2 => (gname 4 nd_8 (.inl rfl) (.inr rfl)), fun _ _ _ _ _ _ _ _ hr2 => ptsYes, fun _ _ _ _ _ _ _ _ hr2 => (xcmpI (opd_in (units66 hr2)) (xv 4 (.inl rfl)) (xv 3 (.inr (.inr rfl))))⟩ (fun _ => rfl))) (sd_one (sd_ret xbl)) sd_nil))))
    (sd_one (sd_ret xbl)))
abbrev nm_9 : List Str := ["frame", "word", "web", "place"]
theorem nd_9 : nm_9.Nodup := by decide +kernel
abbrev st_9 : Stmt := top 12
theorem sc_9 : FnScope nm_9 ["frame", "word", "web"] (defScope st_9) := ⟨rfl, rfl, rfl, nd_9, rfl, by decide +kernel, by decide +kernel⟩
theorem bd_9 (F : Fa K mg base ff fd cc tP) {k : Nat} {lv : Lv} (L : LvOk P w K mg base CX0 ⟨K, Tabs tP⟩ none (Fs ff fd) (k + 1) lv) {f : Addr} {A : Around} {outer : List PySem.Env} {s : Shared} {H : Hp} {E : XK}
    (hr : Gr.RoomG (k + 1) (A.deeper (envOfC "has_shape" (defScope st_9) s.heap.objs.size f (.ref (cc 9))))) : PSs (cxOf CX0 P w K mg base nm_9 "has_shape" (defScope st_9) f (.ref (cc 9)) A outer s H E).nox (defBody st_9) (semS ⟨K, Tabs tP⟩ noE lv dn_9) :=
  (sd_cons (sd_if (ycmp (opd_eq hr.units) (xv 1 (.inl rfl)) xstr) (sd_one (sd_ret (xcmp (opd_eq hr.units) (pd_op opd_mod (xlen F.b_len (xcons (xv 2 (.inr (.inl rfl))) pd_nil)) xint) xint))) sd_nil)
    (sd_cons (sd_if (ycmp (opd_eq hr.units) (xv 1 (.inl rfl)) xstr) (sd_one (sd_ret (xcmp (opd_eq hr.units) (xlen F.b_len (xcons (xcall 5 L F.T hr pass_00 (fun _ => rfl) rfl rfl rfl (xcons (xv 0 (.inr (.inl rfl))) (xcons (xv 2 (.inr (.inl rfl))) pd_nil))) pd_nil)) xint))) sd_nil)
    (sd_cons (sd_if (ycmp (opd_eq hr.units) (xv 1 (.inl rfl)) xstr) (sd_one (sd_ret (xcmp (opd_isn) (xcall 6 L F.T hr pass_00 (fun _ => rfl) rfl rfl rfl (xcons (xv 0 (.inr (.inl rfl))) (xcons (xv 2 (.inr (.inl rfl))) pd_nil))) xnon))) sd_nil)
    (sd_cons (sd_if (ycmp (opd_eq hr.units) (xv 1 (.inl rfl)) xstr) (sd_one (sd_ret (xcall 8 L F.T hr pass_00 (fun _ => rfl) rfl rfl rfl (xcons (xv 2 (.inr (.inl rfl))) pd_nil)))) sd_nil)
    (sd_cons (sd_if (ycmp (opd_eq hr.units) (xv 1 (.inl rfl)) xstr) (sd_one (sd_ret (pd_any (own := [("place", 3)]) F.tm_9 (by decide) hr rfl F.b_any nd_9 F.tb_9 rfl (show Gx.GScp nm_9 (defScope st_9) _ [("place", 3)] from ⟨(show BlkOk nm_9 (defScope st_9) _ [("place", 3)] from ⟨rfl, by decide +kernel, by decide +kernel, by decide +kernel, by decide +kernel⟩), rfl, by decide +kernel, rfl⟩) (irng1 F.b_range (xcons (xix (xv 0 (.inr (.inl rfl))) xint) pd_nil)) ⟨fun _ _ _ _ _ _ _ _ hr2 => (gname 3 nd_9 (.inl rfl) (.inr rfl)), fun _ _ _ _ _ _ _ _ hr2 => ptsYes, fun _ _ _ _ _ _ _ _ hr2 => (xcmp (opd_eq hr2.units) (xlen F.b_len (xcons (xcall 3 L.dn F.T hr2 pass_00 (fun _ => rfl) rfl rfl rfl (xcons (xv 2 (.inr (.inr rfl))) (xcons (xv 3 (.inl rfl)) pd_nil))) pd_nil)) (pd_op opd_sub (xix (xv 0 (.inr (.inr rfl))) xint) xint))⟩ (fun _ => rfl)))) sd_nil)
    (sd_cons (sd_if (ycmp (opd_eq hr.units) (xv 1 (.inl rfl)) xstr) (sd_one (sd_ret (pd_any (own := [("place", 3)]) F.tm_9 (by decide) hr rfl F.b_any nd_9 F.tb_9 rfl (show Gx.GScp nm_9 (defScope st_9) _ [("place", 3)] from ⟨(show BlkOk nm_9 (defScope st_9) _ [("place", 3)] from ⟨rfl, by decide +kernel, by decide +kernel, by decide +kernel, by decide +kernel⟩), rfl, by decide +kernel, rfl⟩) (irng1 F.b_range (xcons (xix (xv 0 (.inr (.inl rfl))) xint) pd_nil)) ⟨fun _ _ _ _ _ _ _ _ hr2 => (gname 3 nd_9 (.inl rfl) (.inr rfl)), fun _ _ _ _ _ _ _ _ hr2 => ptsYes, fun _ _ _ _ _ _ _ _ hr2 => (xcmp (opd_eq hr2.units) (xlen F.b_len (xcons (xcall 3 L.dn F.T hr2 pass_00 (fun _ => rfl) rfl rfl rfl (xcons (xv 2 (.inr (.inr rfl))) (xcons (xv 3 (.inl rfl)) pd_nil))) pd_nil)) xint)⟩ (fun _ => rfl)))) sd_nil)
    (sd_one (sd_ret (xcmp (opd_isn) (xcall 7 L F.T hr pass_00 (fun _ => rfl) rfl rfl rfl (xcons (xv 0 (.inr (.inl rfl))) (xcons (xv 2 (.inr (.inl rfl))) pd_nil))) xnon)))))))))
abbrev nm_10 : List Str := ["frame", "wish", "web", "word"]
theorem nd_10 : nm_10.Nodup := by decide +kernel
abbrev st_10 : Stmt := top 13
theorem sc_10 : FnScope nm_10 ["frame", "wish", "web"] (defScope st_10) := ⟨rfl, rfl, rfl, nd_10, rfl, by decide +kernel, by decide +kernel⟩
theorem bd_10 (F : Fa K mg base ff fd cc tP) {k : Nat} {lv : Lv} (L : LvOk P w K mg base CX0 ⟨K, Tabs tP⟩ none (Fs ff fd) (k + 1) lv) {f : Addr} {cdv : Value} {A : Around} {outer : List PySem.Env} {s : Shared} {H : Hp} {E : XK}
    (hr : Gr.RoomG (k + 1) (A.deeper (envOfC "has_simple" (defScope st_10) s.heap.objs.size f cdv))) : PSs (cxOf CX0 P w K mg base nm_10 "has_simple" (defScope st_10) f cdv A outer s H E).nox (defBody st_10) (semS ⟨K, Tabs tP⟩ noE lv dn_10) :=
  (sd_cons (zasg (xix (xv 1 (.inl rfl)) xint) (gname 3 nd_10 (.inl rfl) (.inl rfl)))
    (sd_cons (sd_if (ycmp (opd_eq hr.units) (xv 3 (.inl rfl)) xstr) (sd_one (sd_ret (xcmpI (opd_in (units66 hr)) (pd_tup (xcons (xix (xv 1 (.inl rfl)) xint) (xcons (xix (xv 1 (.inl rfl)) xint) pd_nil))) (xv 2 (.inl rfl))))) sd_nil)
    (sd_cons (sd_if (ycmp (opd_eq hr.units) (xv 3 (.inl rfl)) xstr) (sd_one (sd_ret (xcmp (opd_ge) (xlen F.b_len (xcons (xv 2 (.inl rfl)) pd_nil)) (xix (xv 1 (.inl rfl)) xint)))) sd_nil)
    (sd_cons (sd_if (ycmp (opd_eq hr.units) (xv 3 (.inl rfl)) xstr) (sd_one (sd_ret (xcmpI (opd_in (units66 hr)) (xix (xv 1 (.inl rfl)) xint) (xcall 4 L F.T hr pass_00 (fun _ => rfl) rfl rfl rfl (xcons (xv 2 (.inl rfl)) (xcons (xix (xv 1 (.inl rfl)) xint) pd_nil)))))) sd_nil)
    (sd_cons (sd_if (ycmp (opd_eq hr.units) (xv 3 (.inl rfl)) xstr) (sd_one (sd_ret (xcmp (opd_ge) (xlen F.b_len (xcons (xcall 3 L F.T hr pass_00 (fun _ => rfl) rfl rfl rfl (xcons (xv 2 (.inl rfl)) (xcons (xix (xv 1 (.inl rfl)) xint) pd_nil))) pd_nil)) (xix (xv 1 (.inl rfl)) xint)))) sd_nil)
    (sd_cons (sd_if (ycmp (opd_eq hr.units) (xv 3 (.inl rfl)) xstr) (sd_one (sd_ret (xix (xix (xv 1 (.inl rfl)) xint) (xcall 1 L F.T hr pass_00 (fun _ => rfl) rfl rfl rfl (xcons (xv 0 (.inl rfl)) (xcons (xv 2 (.inl rfl)) pd_nil)))))) sd_nil)
    (sd_one (sd_ret (xcall 9 L F.T hr pass_00 (fun _ => rfl) rfl rfl rfl (xcons (xv 0 (.inl rfl)) (xcons (xv 3 (.inl rfl)) (xcons (xv 2 (.inl rfl)) pd_nil))))))))))))
abbrev nm_11 : List Str := ["frame", "wish", "web", "word"]
theorem nd_11 : nm_11.Nodup := by decide +kernel
abbrev st_11 : Stmt := top 14
theorem sc_11 : FnScope nm_11 ["frame", "wish", "web"] (defScope st_11) := ⟨rfl, rfl, rfl, nd_11, rfl, by decide +kernel, by decide +kernel⟩
theorem bd_11 (F : Fa K mg base ff fd cc tP) {k : Nat} {lv : Lv} (L : LvOk P w K mg base CX0 ⟨K, Tabs tP⟩ none (Fs ff fd) (k + 1) lv) {f : Addr} {cdv : Value} {A : Around} {outer : List PySem.Env} {s : Shared} {H : Hp} {E : XK}
    (hr : Gr.RoomG (k + 1) (A.deeper (envOfC "has" (defScope st_11) s.heap.objs.size f cdv))) : PSs (cxOf CX0 P w K mg base nm_11 "has" (defScope st_11) f cdv A outer s H E).nox (defBody st_11) (semS ⟨K, Tabs tP⟩ noE lv dn_11) :=
  (sd_cons (zasg (xix (xv 1 (.inl rfl)) xint) (gname 3 nd_11 (.inl rfl) (.inl rfl)))
    (sd_cons (sd_if (ycmp (opd_eq hr.units) (xv 3 (.inl rfl)) xstr) (sd_one (sd_ret (pd_not (xcall 11 L F.T hr pass_00 (fun _ => rfl) rfl rfl rfl (xcons (xv 0 (.inl rfl)) (xcons (xix (xv 1 (.inl rfl)) xint) (xcons (xv 2 (.inl rfl)) pd_nil))))))) sd_nil)
    (sd_cons (sd_if (ycmp (opd_eq hr.units) (xv 3 (.inl rfl)) xstr) (sd_one (sd_ret (xcall 11 L F.T hr pass_00 (fun _ => rfl) rfl rfl rfl (xcons (xv 0 (.inl rfl)) (xcons (xix (xv 1 (.inl rfl)) xint) (xcons (xcall 2 L F.T hr pass_00 (fun _ => rfl) rfl rfl rfl (xcons (xv 0 (.inl rfl)) (xcons (xv 2 (.inl rfl)) pd_nil))) pd_nil)))))) sd_nil)
    (sd_cons (sd_if (ycmp (opd_eq hr.units) (xv 3 (.inl rfl)) xstr) (sd_one (sd_ret (pd_andV (xcall 11 L F.T hr pass_00 (fun _ => rfl) rfl rfl rfl (xcons (xv 0 (.inl rfl)) (xcons (xix (xv 1 (.inl rfl)) xint) (xcons (xv 2 (.inl rfl)) pd_nil)))) (pe_one (xcall 11 L F.T hr pass_00 (fun _ => rfl) rfl rfl rfl (xcons (xv 0 (.inl rfl)) (xcons (xix (xv 1 (.inl rfl)) xint) (xcons (xv 2 (.inl rfl)) pd_nil)))))))) sd_nil)
    (sd_cons (sd_if (ycmp (opd_eq hr.units) (xv 3 (.inl rfl)) xstr) (sd_one (sd_ret (pd_orV (xcall 11 L F.T hr pass_00 (fun _ => rfl) rfl rfl rfl (xcons (xv 0 (.inl rfl)) (xcons (xix (xv 1 (.inl rfl)) xint) (xcons (xv 2 (.inl rfl)) pd_nil)))) (pe_one (xcall 11 L F.T hr pass_00 (fun _ => rfl) rfl rfl rfl (xcons (xv 0 (.inl rfl)) (xcons (xix (xv 1 (.inl rfl)) xint) (xcons (xv 2 (.inl rfl)) pd_nil)))))))) sd_nil)
    (sd_cons (sd_if (ycmp (opd_eq hr.units) (xv 3 (.inl rfl)) xstr) (sd_one (sd_ret (xcmp (opd_ne hr.units) (xcall 11 L F.T hr pass_00 (fun _ => rfl) rfl rfl rfl (xcons (xv 0 (.inl rfl)) (xcons (xix (xv 1 (.inl rfl)) xint) (xcons (xv 2 (.inl rfl)) pd_nil)))) (xcall 11 L F.T hr pass_00 (fun _ => rfl) rfl rfl rfl (xcons (xv 0 (.inl rfl)) (xcons (xix (xv 1 (.inl rfl)) xint) (xcons (xv 2 (.inl rfl)) pd_nil))))))) sd_nil)
    (sd_one (sd_ret (xcall 10 L F.T hr pass_00 (fun _ => rfl) rfl rfl rfl (xcons (xv 0 (.inl rfl)) (xcons (xv 1 (.inl rfl)) (xcons (xv 2 (.inl rfl)) pd_nil))))))))))))
abbrev nm_12 : List Str := ["frame", "wish", "other", "web"]
theorem nd_12 : nm_12.Nodup := by decide +kernel
abbrev st_12 : Stmt := top 16
theorem sc_12 : FnScope nm_12 ["frame", "wish", "other"] (defScope st_12) := ⟨rfl, rfl, rfl, nd_12, rfl, by decide +kernel, by decide +kernel⟩
theorem bd_12 (F : Fa K mg base ff fd cc tP) {k : Nat} {lv : Lv} (L : LvOk P w K mg base CX0 ⟨K, Tabs tP⟩ none (Fs ff fd) (k + 1) lv) {f : Addr} {cdv : Value} {A : Around} {outer : List PySem.Env} {s : Shared} {H : Hp} {E : XK}
    (hr : Gr.RoomG (k + 1) (A.deeper (envOfC "first_unlike" (defScope st_12) s.heap.objs.size f cdv))) : PSs (cxOf CX0 P w K mg base nm_12 "first_unlike" (defScope st_12) f cdv A outer s H E).nox (defBody st_12) (semS ⟨K, Tabs tP⟩ noE lv dn_12) :=
  (sd_cons (zfor PassesOwn.never (id_val (xcall 0 L F.T hr pass_00 (fun _ => rfl) rfl rfl rfl (xcons (xv 0 (.inl rfl)) pd_nil))) (gname 3 nd_12 (.inl rfl) (.inl rfl)) (sd_one (sd_if (ycmp (opd_ne hr.units) (xcall 11 L F.T hr pass_00 (fun _ => rfl) rfl rfl rfl (xcons (xv 0 (.inl rfl)) (xcons (xv 1 (.inl rfl)) (xcons (xv 3 (.inl rfl)) pd_nil)))) (xcall 11 L F.T hr pass_00 (fun _ => rfl) rfl rfl rfl (xcons (xv 0 (.inl rfl)) (xcons (xv 2 (.inl rfl)) (xcons (xv 3 (.inl rfl)) pd_nil))))) (sd_one (sd_ret (xv 3 (.inl rfl)))) sd_nil)))
    (sd_one (sd_ret xnon)))
abbrev nm_13 : List Str := ["_law_script", "_law_k", "_law_cell"]
theorem nd_13 : nm_13.Nodup := by decide +kernel
abbrev st_13 : Stmt := top 18
theorem sc_13 : FnScope nm_13 ["_law_script", "_law_k"] (defScope st_13) := ⟨rfl, rfl, rfl, nd_13, rfl, by decide +kernel, by decide +kernel⟩
theorem bd_13 (F : Fa K mg base ff fd cc tP) {k : Nat} {lv : Lv} (L : LvOk P w K mg base CX0 ⟨K, Tabs tP⟩ none (Fs ff fd) (k + 1) lv) {f : Addr} {cdv : Value} {A : Around} {outer : List PySem.Env} {s : Shared} {H : Hp} {E : XK}
    (hr : Gr.RoomG (k + 1) (A.deeper (envOfC "_law_pen" (defScope st_13) s.heap.objs.size f cdv))) : PSs (cxOf CX0 P w K mg base nm_13 "_law_pen" (defScope st_13) f cdv A outer s H E).nox (defBody st_13) (semS ⟨K, Tabs tP⟩ noE lv dn_13) :=
  (sd_cons (zasg (pd_op opd_add (pd_op opd_add (pd_op opd_mul (pd_op opd_mul xint (xv 1 (.inl rfl))) (xv 1 (.inl rfl))) (pd_op opd_mul xint (xv 1 (.inl rfl)))) xint) (gname 2 nd_13 (.inl rfl) (.inl rfl)))
    (sd_cons (sd_if (ycmp (opd_lt hr.units0) (xv 1 (.inl rfl)) (xlen F.b_len (xcons (xv 0 (.inl rfl)) pd_nil))) (sd_one (zasg (xix (xv 0 (.inl rfl)) (xv 1 (.inl rfl))) (gname 2 nd_13 (.inl rfl) (.inl rfl)))) (sd_one (sd_if (ycmp (opd_gt) (xlen F.b_len (xcons (xv 0 (.inl rfl)) pd_nil)) xint) (sd_one (zasg (pd_op opd_add (pd_op opd_mul (pd_op opd_mod (xix (xv 0 (.inl rfl)) (pd_op opd_mod (xv 1 (.inl rfl)) (xlen F.b_len (xcons (xv 0 (.inl rfl)) pd_nil)))) xint) (pd_op opd_add (xv 1 (.inl rfl)) xint)) (pd_op opd_mul xint (xv 1 (.inl rfl)))) (gname 2 nd_13 (.inl rfl) (.inl rfl)))) sd_nil)))
    (sd_cons (sd_if (ycmp (opd_ge) (xabs F.b_abs (xcons (xv 2 (.inl rfl)) pd_nil)) (pd_op opd_pow xint xint)) (sd_one (sd_ret (pd_lst (xcons (xabs F.b_abs (xcons (xv 2 (.inl rfl)) pd_nil)) (xcons xint (xcons xint pd_nil)))))) sd_nil)
    (sd_one (sd_ret (pd_lst (xcons xint (xcons (pd_op opd_add (pd_op opd_mod (xv 2 (.inl rfl)) xint) (pd_op opd_mul xint (xv 1 (.inl rfl)))) (xcons xint pd_nil)))))))))
abbrev nm_14 : List Str := ["_law_pen_here", "_law_many", "_law_digit", "_law_number"]
theorem nd_14 : nm_14.Nodup := by decide +kernel
abbrev st_14 : Stmt := top 19
theorem sc_14 : FnScope nm_14 ["_law_pen_here", "_law_many"] (defScope st_14) := ⟨rfl, rfl, rfl, nd_14, rfl, by decide +kernel, by decide +kernel⟩
theorem bd_14 (F : Fa K mg base ff fd cc tP) {k : Nat} {lv : Lv} (L : LvOk P w K mg base CX0 ⟨K, Tabs tP⟩ none (Fs ff fd) (k + 1) lv) {f : Addr} {cdv : Value} {A : Around} {outer : List PySem.Env} {s : Shared} {H : Hp} {E : XK}
    (hr : Gr.RoomG (k + 1) (A.deeper (envOfC "_law_take" (defScope st_14) s.heap.objs.size f cdv))) : PSs (cxOf CX0 P w K mg base nm_14 "_law_take" (defScope st_14) f cdv A outer s H E).nox (defBody st_14) (semS ⟨K, Tabs tP⟩ noE lv dn_14) :=
  (sd_cons (zsub (xv 0 (.inl rfl)) xint (pd_op opd_add (xix (xv 0 (.inl rfl)) xint) xint))
    (sd_cons (sd_if (ycmp (opd_gt) (xix (xv 0 (.inl rfl)) xint) xint) (sd_cons (zasg (pd_op opd_mod (xix (xv 0 (.inl rfl)) xint) (xv 1 (.inl rfl))) (gname 2 nd_14 (.inl rfl) (.inl rfl)))
    (sd_cons (zsub (xv 0 (.inl rfl)) xint (pd_op opd_fdiv (xix (xv 0 (.inl rfl)) xint) (xv 1 (.inl rfl))))
    (sd_one (sd_ret (xv 2 (.inl rfl)))))) sd_nil)
    (sd_cons (zasg (pd_op opd_mod (pd_op opd_mul (pd_op opd_add (pd_op opd_add (xix (xv 0 (.inl rfl)) xint) (pd_op opd_mul xint (xix (xv 0 (.inl rfl)) xint))) xint) xint) xint) (gname 3 nd_14 (.inl rfl) (.inl rfl)))
    (sd_cons (zasg (pd_op opd_mod (pd_op opd_add (pd_op opd_add (pd_op opd_mul (xv 3 (.inl rfl)) (xv 3 (.inl rfl))) (pd_op opd_mul xint (xix (xv 0 (.inl rfl)) xint))) xint) xint) (gname 3 nd_14 (.inl rfl) (.inl rfl)))
    (sd_one (sd_ret (pd_op opd_mod (pd_op opd_fdiv (pd_op opd_mod (pd_op opd_mul (xv 3 (.inl rfl)) (pd_op opd_add (pd_op opd_mod (xv 3 (.inl rfl)) xint) xint)) xint) xint) (xv 1 (.inl rfl)))))))))
abbrev nm_15 : List Str := ["_law_pen_here", "_law_most", "_law_places", "_law_left", "_law_a", "_law_many", "_law_some", "_law_k", "_law_b"]
theorem nd_15 : nm_15.Nodup := by decide +kernel
abbrev st_15 : Stmt := top 20
theorem sc_15 : FnScope nm_15 ["_law_pen_here", "_law_most"] (defScope st_15) := ⟨rfl, rfl, rfl, nd_15, rfl, by decide +kernel, by decide +kernel⟩
theorem bd_15 (F : Fa K mg base ff fd cc tP) {k : Nat} {lv : Lv} (L : LvOk P w K mg base CX0 ⟨K, Tabs tP⟩ none (Fs ff fd) (k + 1) lv) {f : Addr} {cdv : Value} {A : Around} {outer : List PySem.Env} {s : Shared} {H : Hp} {E : XK}
    (hr : Gr.RoomG (k + 1) (A.deeper (envOfC "_law_frame" (defScope st_15) s.heap.objs.size f cdv))) : PSs (cxOf CX0 P w K mg base nm_15 "_law_frame" (defScope st_15) f cdv A outer s H E).nox (defBody st_15) (semS ⟨K, Tabs tP⟩ noE lv dn_15) :=
  (sd_cons (zasg (xix (pd_lst (xcons xint (xcons xint (xcons xint (xcons xint (xcons xint (xcons xint (xcons xint (xcons xint (xcons xint (xcons xint pd_nil))))))))))) (xcall 14 L F.T hr pass_00 (fun _ => rfl) rfl rfl rfl (xcons (xv 0 (.inl rfl)) (xcons xint pd_nil)))) (gname 2 nd_15 (.inl rfl) (.inl rfl)))
    (sd_cons (zasg (pd_lst pd_nil) (gname 3 nd_15 (.inl rfl) (.inl rfl)))
    (sd_cons (zfor PassesOwn.never (irng1 F.b_range (xcons (xv 2 (.inl rfl)) pd_nil)) (gname 4 nd_15 (.inr rfl) (.inl rfl)) (sd_one (zexpr (st := sNil) (xmt PySem.F.slot_list_extend PySem.F.type_list_extend mtd_extend (xv 3 (.inl rfl)) (xcons (xlc [("_law_b", 8)] nd_15 (irng2 F.b_range (xcons (pd_op opd_add (xv 4 (.inr (.inl rfl))) xint) (xcons (xv 2 (.inl rfl)) pd_nil))) (show BlkOk nm_15 (defScope st_15) _ [("_law_b", 8)] from ⟨rfl, by decide +kernel, by decide +kernel, by decide +kernel, by decide +kernel⟩) ⟨fun _ _ _ _ _ => (gname 8 nd_15 (.inl rfl) (.inr rfl)), fun _ _ _ _ _ => ptsYes, fun _ _ _ _ _ => (pd_tup (xcons (xv 4 (.inr (.inl rfl))) (xcons (xv 8 (.inl rfl)) pd_nil)))⟩) pd_nil)))))
    (sd_cons (zasg (xmin F.b_min (xcons (xlen F.b_len (xcons (xv 3 (.inl rfl)) pd_nil)) (xcons (xcall 14 L F.T hr pass_00 (fun _ => rfl) rfl rfl rfl (xcons (xv 0 (.inl rfl)) (xcons (pd_op opd_add (xv 1 (.inl rfl)) xint) pd_nil))) pd_nil))) (gname 5 nd_15 (.inl rfl) (.inl rfl)))
    (sd_cons (sd_if (ycmp (opd_eq hr.units) (xcall 14 L F.T hr pass_00 (fun _ => rfl) rfl rfl rfl (xcons (xv 0 (.inl rfl)) (xcons xint pd_nil))) xint) (sd_one (zasg (xmin F.b_min (xcons (xlen F.b_len (xcons (xv 3 (.inl rfl)) pd_nil)) (xcons (xv 1 (.inl rfl)) pd_nil))) (gname 5 nd_15 (.inl rfl) (.inl rfl)))) sd_nil)
    (sd_cons (zasg (pd_lst pd_nil) (gname 6 nd_15 (.inl rfl) (.inl rfl)))
    (sd_cons (zfor PassesOwn.never (irng1 F.b_range (xcons (xv 5 (.inl rfl)) pd_nil)) (gname 7 nd_15 (.inl rfl) (.inl rfl)) (sd_one (zexpr (st := sNil) (xmt PySem.F.slot_list_append PySem.F.type_list_append mtd_append (xv 6 (.inl rfl)) (xcons (xmt PySem.F.slot_list_pop PySem.F.type_list_pop mtd_pop (xv 3 (.inl rfl)) (xcons (xcall 14 L F.T hr pass_00 (fun _ => rfl) rfl rfl rfl (xcons (xv 0 (.inl rfl)) (xcons (xlen F.b_len (xcons (xv 3 (.inl rfl)) pd_nil)) pd_nil))) pd_nil)) pd_nil)))))
    (sd_one (sd_ret (pd_tup (xcons (xv 2 (.inl rfl)) (xcons (xtuple F.b_tuple (xcons (xsorted F.b_sorted (xcons (xv 6 (.inl rfl)) pd_nil)) pd_nil)) pd_nil))))))))))))
abbrev nm_16 : List Str := ["_law_frame_here", "_law_ties", "_law_found", "_law_number", "_law_k"]
theorem nd_16 : nm_16.Nodup := by decide +kernel
abbrev st_16 : Stmt := top 21
theorem sc_16 : FnScope nm_16 ["_law_frame_here"] (defScope st_16) := ⟨rfl, rfl, rfl, nd_16, rfl, by decide +kernel, by decide +kernel⟩
theorem bd_16 (F : Fa K mg base ff fd cc tP) {k : Nat} {lv : Lv} (L : LvOk P w K mg base CX0 ⟨K, Tabs tP⟩ none (Fs ff fd) (k + 1) lv) {f : Addr} {cdv : Value} {A : Around} {outer : List PySem.Env} {s : Shared} {H : Hp} {E : XK}
    (hr : Gr.RoomG (k + 1) (A.deeper (envOfC "_law_webs" (defScope st_16) s.heap.objs.size f cdv))) : PSs (cxOf CX0 P w K mg base nm_16 "_law_webs" (defScope st_16) f cdv A outer s H E).nox (defBody st_16) (semS ⟨K, Tabs tP⟩ noE lv dn_16) :=
  (sd_cons (zasg (xix (xv 0 (.inl rfl)) xint) (gname 1 nd_16 (.inr rfl) (.inl rfl)))
    (sd_cons (zasg (pd_lst pd_nil) (gname 2 nd_16 (.inl rfl) (.inl rfl)))
    (sd_cons (zfor PassesOwn.never (irng1 F.b_range (xcons (pd_op opd_shl xint (xlen F.b_len (xcons (xv 1 (.inr (.inl rfl))) pd_nil))) pd_nil)) (gname 3 nd_16 (.inr rfl) (.inl rfl)) (sd_one (zexpr (st := sNil) (xmt PySem.F.slot_list_append PySem.F.type_list_append mtd_append (xv 2 (.inl rfl)) (xcons (xtuple F.b_tuple (xcons (xlc [("_law_k", 4)] nd_16 (irng1 F.b_range (xcons (xlen F.b_len (xcons (xv 1 (.inr (.inl rfl))) pd_nil)) pd_nil)) (show BlkOk nm_16 (defScope st_16) _ [("_law_k", 4)] from ⟨rfl, by decide +kernel, by decide +kernel, by decide +kernel, by decide +kernel⟩) ⟨fun _ _ _ _ _ => (gname 4 nd_16 (.inl rfl) (.inr rfl)), fun _ _ _ _ _ => (pts_one (ycmp (opd_eq hr.units) (pd_op opd_and (pd_op opd_shr (xv 3 (.inr (.inl rfl))) (xv 4 (.inl rfl))) xint) xint)), fun _ _ _ _ _ => (xix (xv 1 (.inr (.inl rfl))) (xv 4 (.inl rfl)))⟩) pd_nil)) pd_nil)))))
    (sd_one (sd_ret (xv 2 (.inl rfl)))))))
abbrev nm_17 : List Str := ["_law_web", "_law_place", "_law_found", "_law_at", "_law_tie"]
theorem nd_17 : nm_17.Nodup := by decide +kernel
abbrev st_17 : Stmt := top 22
theorem sc_17 : FnScope nm_17 ["_law_web", "_law_place"] (defScope st_17) := ⟨rfl, rfl, rfl, nd_17, rfl, by decide +kernel, by decide +kernel⟩
theorem bd_17 (F : Fa K mg base ff fd cc tP) {k : Nat} {lv : Lv} (L : LvOk P w K mg base CX0 ⟨K, Tabs tP⟩ none (Fs ff fd) (k + 1) lv) {f : Addr} {cdv : Value} {A : Around} {outer : List PySem.Env} {s : Shared} {H : Hp} {E : XK}
    (hr : Gr.RoomG (k + 1) (A.deeper (envOfC "_law_reached" (defScope st_17) s.heap.objs.size f cdv))) : PSs (cxOf CX0 P w K mg base nm_17 "_law_reached" (defScope st_17) f cdv A outer s H E).nox (defBody st_17) (semS ⟨K, Tabs tP⟩ noE lv dn_17) :=
  (sd_cons (zasg (pd_lst (xcons (xv 1 (.inl rfl)) pd_nil)) (gname 2 nd_17 (.inl rfl) (.inl rfl)))
    (sd_cons (zasg xint (gname 3 nd_17 (.inl rfl) (.inl rfl)))
    (sd_cons (sd_while PassesOwn.never (ycmp (opd_lt hr.units0) (xv 3 (.inl rfl)) (xlen F.b_len (xcons (xv 2 (.inl rfl)) pd_nil))) (sd_cons (zfor PassesOwn.never (id_val (xv 0 (.inl rfl))) (gname 4 nd_17 (.inl rfl) (.inl rfl)) (sd_one (sd_if (PW.pt (td_and (ycmpI (opd_in (units66 hr)) (xix (xv 2 (.inl rfl)) (xv 3 (.inl rfl))) (xv 4 (.inl rfl))) (td_and1 (ycmpI (opd_nin (units66 hr)) (pd_op opd_sub (xsum F.b_sum (xcons (xv 4 (.inl rfl)) pd_nil)) (xix (xv 2 (.inl rfl)) (xv 3 (.inl rfl)))) (xv 2 (.inl rfl)))))) (sd_one (zexpr (st := sNil) (xmt PySem.F.slot_list_append PySem.F.type_list_append mtd_append (xv 2 (.inl rfl)) (xcons (pd_op opd_sub (xsum F.b_sum (xcons (xv 4 (.inl rfl)) pd_nil)) (xix (xv 2 (.inl rfl)) (xv 3 (.inl rfl)))) pd_nil)))) sd_nil)))
    (sd_one (zasg (pd_op opd_add (xv 3 (.inl rfl)) xint) (gname 3 nd_17 (.inl rfl) (.inl rfl))))))
    (sd_one (sd_ret (xv 2 (.inl rfl)))))))
abbrev nm_18 : List Str := ["_law_frame_here", "_law_web", "_law_sides", "_law_place", "_law_here", "_law_tie"]
theorem nd_18 : nm_18.Nodup := by decide +kernel
abbrev st_18 : Stmt := top 23
theorem sc_18 : FnScope nm_18 ["_law_frame_here", "_law_web"] (defScope st_18) := ⟨rfl, rfl, rfl, nd_18, rfl, by decide +kernel, by decide +kernel⟩
theorem bd_18 (F : Fa K mg base ff fd cc tP) {k : Nat} {lv : Lv} (L : LvOk P w K mg base CX0 ⟨K, Tabs tP⟩ none (Fs ff fd) (k + 1) lv) {f : Addr} {cdv : Value} {A : Around} {outer : List PySem.Env} {s : Shared} {H : Hp} {E : XK}
    (hr : Gr.RoomG (k + 1) (A.deeper (envOfC "_law_two_sides" (defScope st_18) s.heap.objs.size f cdv))) : PSs (cxOf CX0 P w K mg base nm_18 "_law_two_sides" (defScope st_18) f cdv A outer s H E).nox (defBody st_18) (semS ⟨K, Tabs tP⟩ noE lv dn_18) :=
  (sd_cons (zasg pd_dk0 (gname 2 nd_18 (.inr rfl) (.inl rfl)))
    (sd_cons (zfor PassesOwn.never (irng1 F.b_range (xcons (xixA hr.units (xv 0 (.inl rfl)) xint) pd_nil)) (gname 3 nd_18 (.inl rfl) (.inl rfl)) (sd_one (sd_if (ycmpI (opd_nin (units66 hr)) (xv 3 (.inl rfl)) (xv 2 (.inr (.inl rfl)))) (sd_cons (zsubA hr.units (xv 2 (.inr (.inl rfl))) (xv 3 (.inl rfl)) xint)
    (sd_one (zfor PassesOwn.never (id_val (xcall 17 L F.T hr pass_00 (fun _ => rfl) rfl rfl rfl (xcons (xv 1 (.inl rfl)) (xcons (xv 3 (.inl rfl)) pd_nil)))) (gname 4 nd_18 (.inl rfl) (.inl rfl)) (sd_one (zfor PassesOwn.never (id_val (xv 1 (.inl rfl))) (gname 5 nd_18 (.inl rfl) (.inl rfl)) (sd_one (sd_if (ycmpI (opd_in (units66 hr)) (xv 4 (.inl rfl)) (xv 5 (.inl rfl))) (sd_one (zexpr (st := sNil) (xsetd (xv 2 (.inr (.inl rfl))) (pd_op opd_sub (xsum F.b_sum (xcons (xv 5 (.inl rfl)) pd_nil)) (xv 4 (.inl rfl))) (pd_op opd_sub xint (xixA hr.units (xv 2 (.inr (.inl rfl))) (xv 4 (.inl rfl))))))) sd_nil))))))) sd_nil)))
    (sd_one (sd_ret (xcmp (opd_eq hr.units) (xlc [("_law_tie", 5)] nd_18 (id_val (xv 1 (.inl rfl))) (show BlkOk nm_18 (defScope st_18) _ [("_law_tie", 5)] from ⟨rfl, by decide +kernel, by decide +kernel, by decide +kernel, by decide +kernel⟩) ⟨fun _ _ _ _ _ => (gname 5 nd_18 (.inl rfl) (.inr rfl)), fun _ _ _ _ _ => (pts_one (ycmp (opd_eq hr.units) (xixA hr.units (xv 2 (.inr (.inl rfl))) (xixA hr.units (xv 5 (.inl rfl)) xint)) (xixA hr.units (xv 2 (.inr (.inl rfl))) (xixA hr.units (xv 5 (.inl rfl)) xint)))), fun _ _ _ _ _ => (xv 5 (.inl rfl))⟩) (pd_lst pd_nil))))))
abbrev nm_19 : List Str := ["_law_frame_here", "_law_web", "_law_lots", "_law_many", "_law_number", "_law_words", "_law_a", "_law_b", "_law_c", "_law_place", "_law_tie"]
theorem nd_19 : nm_19.Nodup := by decide +kernel
abbrev st_19 : Stmt := top 24
theorem sc_19 : FnScope nm_19 ["_law_frame_here", "_law_web"] (defScope st_19) := ⟨rfl, rfl, rfl, nd_19, rfl, by decide +kernel, by decide +kernel⟩
theorem bd_19 (F : Fa K mg base ff fd cc tP) {k : Nat} {lv : Lv} (L : LvOk P w K mg base CX0 ⟨K, Tabs tP⟩ none (Fs ff fd) (k + 1) lv) {f : Addr} {cdv : Value} {A : Around} {outer : List PySem.Env} {s : Shared} {H : Hp} {E : XK}
    (hr : Gr.RoomG (k + 1) (A.deeper (envOfC "_law_facts" (defScope st_19) s.heap.objs.size f cdv))) : PSs (cxOf CX0 P w K mg base nm_19 "_law_facts" (defScope st_19) f cdv A outer s H E).nox (defBody st_19) (semS ⟨K, Tabs tP⟩ noE lv dn_19) :=
  (sd_cons (zasg (xlc [("_law_place", 9)] nd_19 (irng1 F.b_range (xcons (xix (xv 0 (.inl rfl)) xint) pd_nil)) (show BlkOk nm_19 (defScope st_19) _ [("_law_place", 9)] from ⟨rfl, by decide +kernel, by decide +kernel, by decide +kernel, by decide +kernel⟩) ⟨fun _ _ _ _ _ => (gname 9 nd_19 (.inl rfl) (.inr rfl)), fun _ _ _ _ _ => ptsYes, fun _ _ _ _ _ => (xsortI F.b_sorted (xcons (xcall 17 L F.T hr pass_00 (fun _ => rfl) rfl rfl rfl (xcons (xv 1 (.inr (.inl rfl))) (xcons (xv 9 (.inl rfl)) pd_nil))) pd_nil))⟩) (gname 2 nd_19 (.inr rfl) (.inl rfl)))
    (sd_cons (zlc 3 [("_law_place", 9)] nd_19 (irng1 F.b_range (xcons (xix (xv 0 (.inl rfl)) xint) pd_nil)) (show BlkOk nm_19 (defScope st_19) _ [("_law_place", 9)] from ⟨rfl, by decide +kernel, by decide +kernel, by decide +kernel, by decide +kernel⟩) ⟨fun _ _ _ _ _ => (gname 9 nd_19 (.inr rfl) (.inl rfl)), fun _ _ _ _ _ => ptsYes, fun _ _ _ _ _ => (xlen F.b_len (xcons (xlc [("_law_tie", 10)] nd_19 (id_val (xv 1 (.inr (.inl rfl)))) (show BlkOk nm_19 (relS _ (defScope st_19)) _ [("_law_tie", 10)] from ⟨rfl, by decide +kernel, by decide +kernel, by decide +kernel, by decide +kernel⟩) ⟨fun _ _ _ _ _ => (gname 10 nd_19 (.inl rfl) (.inr rfl)), fun _ _ _ _ _ => (pts_one (ycmpI (opd_in (units66 hr)) (xv 9 (.inr (.inl rfl))) (xv 10 (.inl rfl)))), fun _ _ _ _ _ => (xv 10 (.inl rfl))⟩) pd_nil))⟩)
    (sd_cons (zasg (xlen F.b_len (xcons (xlc [("_law_place", 9)] nd_19 (irng1 F.b_range (xcons (xix (xv 0 (.inl rfl)) xint) pd_nil)) (show BlkOk nm_19 (defScope st_19) _ [("_law_place", 9)] from ⟨rfl, by decide +kernel, by decide +kernel, by decide +kernel, by decide +kernel⟩) ⟨fun _ _ _ _ _ => (gname 9 nd_19 (.inl rfl) (.inr rfl)), fun _ _ _ _ _ => (pts_one (ycmp (opd_eq hr.units) (xix (xix (xv 2 (.inr (.inl rfl))) (xv 9 (.inl rfl))) xint) (xv 9 (.inl rfl)))), fun _ _ _ _ _ => (xv 9 (.inl rfl))⟩) pd_nil)) (gname 4 nd_19 (.inl rfl) (.inl rfl)))
    (sd_cons (zasg (xdisp (pk_cons xstr (xcmp (opd_eq hr.units) (xv 4 (.inl rfl)) xint) (pk_cons xstr (xcmp (opd_gt) (xlen F.b_len (xcons (xv 1 (.inr (.inl rfl))) pd_nil)) (pd_op opd_sub (xix (xv 0 (.inl rfl)) xint) (xv 4 (.inl rfl)))) (pk_cons xstr (xcmp (opd_eq hr.units) (pd_op opd_mod (xlen F.b_len (xcons (xv 1 (.inr (.inl rfl))) pd_nil)) xint) xint) pk_nil)))) (gname 5 nd_19 (.inl rfl) (.inl rfl)))
    (sd_cons (zputK hr.units (xv 5 (.inl rfl)) xstr (xcmpI (opd_in (units66 hr)) (pd_op opd_sub (xix (xv 0 (.inl rfl)) xint) xint) (xv 3 (.inl rfl))))
    (sd_cons (zputK hr.units (xv 5 (.inl rfl)) xstr (xcmpI (opd_in (units66 hr)) xint (xv 3 (.inl rfl))))
    (sd_cons (zputK hr.units (xv 5 (.inl rfl)) xstr (xcall 18 L F.T hr pass_00 (fun _ => rfl) rfl rfl rfl (xcons (xv 0 (.inl rfl)) (xcons (xv 1 (.inr (.inl rfl))) pd_nil))))
    (sd_cons (zputK hr.units (xv 5 (.inl rfl)) xstr xbl)
    (sd_cons (zfor PassesOwn.never (id_val (xv 1 (.inr (.inl rfl)))) (gtup (gcons (gname 6 nd_19 (.inl rfl) (.inl rfl)) (gcons (gname 7 nd_19 (.inl rfl) (.inl rfl)) gds_nil))) (sd_one (zfor PassesOwn.never (irng2 F.b_range (xcons (pd_op opd_add (xv 7 (.inl rfl)) xint) (xcons (xix (xv 0 (.inl rfl)) xint) pd_nil))) (gname 8 nd_19 (.inl rfl) (.inl rfl)) (sd_one (zputK hr.units (xv 5 (.inl rfl)) xstr (pd_orV (xgetK hr.units (xv 5 (.inl rfl)) xstr) (pe_one (pd_andV (xcmpI (opd_in (units66 hr)) (pd_tup (xcons (xv 6 (.inl rfl)) (xcons (xv 8 (.inl rfl)) pd_nil))) (xv 1 (.inr (.inl rfl)))) (pe_one (xcmpI (opd_in (units66 hr)) (pd_tup (xcons (xv 7 (.inl rfl)) (xcons (xv 8 (.inl rfl)) pd_nil))) (xv 1 (.inr (.inl rfl)))))))))))))
    (sd_one (sd_ret (xdisp (pk_cons xstr (xv 2 (.inr (.inl rfl))) (pk_cons xstr (xv 3 (.inl rfl)) (pk_cons xstr (xv 5 (.inl rfl)) (pk_cons xstr (xv 1 (.inr (.inl rfl))) pk_nil))))))))))))))))
abbrev nm_20 : List Str := ["_law_facts_here", "_law_wish_here", "_law_word"]
theorem nd_20 : nm_20.Nodup := by decide +kernel
abbrev st_20 : Stmt := top 25
theorem sc_20 : FnScope nm_20 ["_law_facts_here", "_law_wish_here"] (defScope st_20) := ⟨rfl, rfl, rfl, nd_20, rfl, by decide +kernel, by decide +kernel⟩
theorem bd_20 (F : Fa K mg base ff fd cc tP) {k : Nat} {lv : Lv} (L : LvOk P w K mg base CX0 ⟨K, Tabs tP⟩ none (Fs ff fd) (k + 1) lv) {f : Addr} {cdv : Value} {A : Around} {outer : List PySem.Env} {s : Shared} {H : Hp} {E : XK}
    (hr : Gr.RoomG (k + 1) (A.deeper (envOfC "_law_plain" (defScope st_20) s.heap.objs.size f cdv))) : PSs (cxOf CX0 P w K mg base nm_20 "_law_plain" (defScope st_20) f cdv A outer s H E).nox (defBody st_20) (semS ⟨K, Tabs tP⟩ noE lv dn_20) :=
  (sd_cons (zasg (xixA hr.units (xv 1 (.inl rfl)) xint) (gname 2 nd_20 (.inl rfl) (.inl rfl)))
    (sd_cons (sd_if (ycmp (opd_eq hr.units) (xv 2 (.inl rfl)) xstr) (sd_one (sd_ret (xcmpI (opd_in (units66 hr)) (pd_sl (xv 1 (.inl rfl)) (od_some xint) od_none) (xgetK hr.units (xv 0 (.inl rfl)) xstr)))) sd_nil)
    (sd_cons (sd_if (ycmp (opd_eq hr.units) (xv 2 (.inl rfl)) xstr) (sd_one (sd_ret (xcmpI (opd_in (units66 hr)) (xixA hr.units (xv 1 (.inl rfl)) xint) (xixA hr.units (xgetK hr.units (xv 0 (.inl rfl)) xstr) (xixA hr.units (xv 1 (.inl rfl)) xint))))) sd_nil)
    (sd_cons (sd_if (ycmp (opd_eq hr.units) (xv 2 (.inl rfl)) xstr) (sd_one (sd_ret (xcmp (opd_ge) (xlen F.b_len (xcons (xgetK hr.units (xv 0 (.inl rfl)) xstr) pd_nil)) (xixA hr.units (xv 1 (.inl rfl)) xint)))) sd_nil)
    (sd_cons (sd_if (ycmp (opd_eq hr.units) (xv 2 (.inl rfl)) xstr) (sd_one (sd_ret (xcmp (opd_ge) (xixA hr.units (xgetK hr.units (xv 0 (.inl rfl)) xstr) (xixA hr.units (xv 1 (.inl rfl)) xint)) (xixA hr.units (xv 1 (.inl rfl)) xint)))) sd_nil)
    (sd_one (sd_ret (xixA hr.units (xgetK hr.units (xv 0 (.inl rfl)) xstr) (xv 2 (.inl rfl))))))))))
abbrev nm_21 : List Str := ["_law_frame_here", "_law_web"]
theorem nd_21 : nm_21.Nodup := by decide +kernel
abbrev st_21 : Stmt := top 26
theorem sc_21 : FnScope nm_21 ["_law_frame_here"] (defScope st_21) := ⟨rfl, rfl, rfl, nd_21, rfl, by decide +kernel, by decide +kernel⟩
theorem bd_21 (F : Fa K mg base ff fd cc tP) {k : Nat} {lv : Lv} (L : LvOk P w K mg base CX0 ⟨K, Tabs tP⟩ none (Fs ff fd) (k + 1) lv) {f : Addr} {cdv : Value} {A : Around} {outer : List PySem.Env} {s : Shared} {H : Hp} {E : XK}
    (hr : Gr.RoomG (k + 1) (A.deeper (envOfC "_law_all_facts" (defScope st_21) s.heap.objs.size f cdv))) : PSs (cxOf CX0 P w K mg base nm_21 "_law_all_facts" (defScope st_21) f cdv A outer s H E).nox (defBody st_21) (semS ⟨K, Tabs tP⟩ noE lv dn_21) :=
  (sd_one (sd_ret (xlc [("_law_web", 1)] nd_21 (id_val (xcall 16 L F.T hr pass_00 (fun _ => rfl) rfl rfl rfl (xcons (xv 0 (.inr (.inl rfl))) pd_nil))) (show BlkOk nm_21 (defScope st_21) _ [("_law_web", 1)] from ⟨rfl, by decide +kernel, by decide +kernel, by decide +kernel, by decide +kernel⟩) ⟨fun _ _ _ _ _ => (gname 1 nd_21 (.inl rfl) (.inr rfl)), fun _ _ _ _ _ => ptsYes, fun _ _ _ _ _ => (xcall 19 L F.T hr pass_00 (fun _ => rfl) rfl rfl rfl (xcons (xv 0 (.inr (.inl rfl))) (xcons (xv 1 (.inl rfl)) pd_nil)))⟩)))
abbrev nm_22 : List Str := ["_law_facts_here", "_law_wish_here", "_law_word", "_law_some", "_law_pairs", "_law_truth", "_law_one", "_law_other"]
theorem nd_22 : nm_22.Nodup := by decide +kernel
abbrev st_22 : Stmt := top 27
theorem sc_22 : FnScope nm_22 ["_law_facts_here", "_law_wish_here"] (defScope st_22) := ⟨rfl, rfl, rfl, nd_22, rfl, by decide +kernel, by decide +kernel⟩
theorem bd_22 (F : Fa K mg base ff fd cc tP) {k : Nat} {lv : Lv} (L : LvOk P w K mg base CX0 ⟨K, Tabs tP⟩ none (Fs ff fd) (k + 1) lv) {f : Addr} {cdv : Value} {A : Around} {outer : List PySem.Env} {s : Shared} {H : Hp} {E : XK}
    (hr : Gr.RoomG (k + 1) (A.deeper (envOfC "_law_table" (defScope st_22) s.heap.objs.size f cdv))) : PSs (cxOf CX0 P w K mg base nm_22 "_law_table" (defScope st_22) f cdv A outer s H E).nox (defBody st_22) (semS ⟨K, Tabs tP⟩ noE lv dn_22) :=
  (sd_cons (zasg (xix (xv 1 (.inr (.inl rfl))) xint) (gname 2 nd_22 (.inl rfl) (.inl rfl)))
    (sd_cons (sd_if (ycmp (opd_eq hr.units) (xv 2 (.inl rfl)) xstr) (sd_one (sd_ret (xlist F.b_list (xcons (xix (xv 1 (.inr (.inl rfl))) xint) pd_nil)))) sd_nil)
    (sd_cons (sd_if (ycmpI (opd_in (units66 hr)) (xv 2 (.inl rfl)) (pd_tup (xcons xstr (xcons xstr pd_nil)))) (sd_cons (zasg (xcall 22 L F.T hr pass_00 (fun _ => rfl) rfl rfl rfl (xcons (xv 0 (.inl rfl)) (xcons (xix (xv 1 (.inr (.inl rfl))) xint) pd_nil))) (gname 3 nd_22 (.inl rfl) (.inl rfl)))
    (sd_cons (sd_if (ycmp (opd_eq hr.units) (xv 2 (.inl rfl)) xstr) (sd_one (sd_ret (pd_rev (xv 3 (.inl rfl))))) sd_nil)
    (sd_one (sd_ret (xlc [("_law_truth", 5)] nd_22 (id_val (xv 3 (.inl rfl))) (show BlkOk nm_22 (defScope st_22) _ [("_law_truth", 5)] from ⟨rfl, by decide +kernel, by decide +kernel, by decide +kernel, by decide +kernel⟩) ⟨fun _ _ _ _ _ => (gname 5 nd_22 (.inl rfl) (.inr rfl)), fun _ _ _ _ _ => ptsYes, fun _ _ _ _ _ => (pd_not (xv 5 (.inl rfl)))⟩))))) sd_nil)
    (sd_cons (sd_if (ycmpI (opd_nin (units66 hr)) (xv 2 (.inl rfl)) (pd_tup (xcons xstr (xcons xstr (xcons xstr pd_nil))))) (sd_one (sd_ret (xlc [("_law_one", 6)] nd_22 (id_val (xv 0 (.inl rfl))) (show BlkOk nm_22 (defScope st_22) _ [("_law_one", 6)] from ⟨rfl, by decide +kernel, by decide +kernel, by decide +kernel, by decide +kernel⟩) ⟨fun _ _ _ _ _ => (gname 6 nd_22 (.inl rfl) (.inr rfl)), fun _ _ _ _ _ => ptsYes, fun _ _ _ _ _ => (xcall 20 L F.T hr pass_00 (fun _ => rfl) rfl rfl rfl (xcons (xv 6 (.inl rfl)) (xcons (xv 1 (.inr (.inl rfl))) pd_nil)))⟩))) sd_nil)
    (sd_cons (zasg (xlz F.b_list F.b_zip (xcons (xcall 22 L F.T hr pass_00 (fun _ => rfl) rfl rfl rfl (xcons (xv 0 (.inl rfl)) (xcons (xix (xv 1 (.inr (.inl rfl))) xint) pd_nil))) (xcons (xcall 22 L F.T hr pass_00 (fun _ => rfl) rfl rfl rfl (xcons (xv 0 (.inl rfl)) (xcons (xix (xv 1 (.inr (.inl rfl))) xint) pd_nil))) pd_nil))) (gname 4 nd_22 (.inl rfl) (.inl rfl)))
    (sd_cons (sd_if (ycmp (opd_eq hr.units) (xv 2 (.inl rfl)) xstr) (sd_one (sd_ret (xlc [("_law_one", 6), ("_law_other", 7)] nd_22 (id_val (xv 4 (.inl rfl))) (show BlkOk nm_22 (defScope st_22) _ [("_law_one", 6), ("_law_other", 7)] from ⟨rfl, by decide +kernel, by decide +kernel, by decide +kernel, by decide +kernel⟩) ⟨fun _ _ _ _ _ => (gtup (gcons (gname 6 nd_22 (.inl rfl) (.inr rfl)) (gcons (gname 7 nd_22 (.inl rfl) (.inr rfl)) gds_nil))), fun _ _ _ _ _ => ptsYes, fun _ _ _ _ _ => (pd_andV (xv 6 (.inl rfl)) (pe_one (xv 7 (.inl rfl))))⟩))) sd_nil)
    (sd_cons (sd_if (ycmp (opd_eq hr.units) (xv 2 (.inl rfl)) xstr) (sd_one (sd_ret (xlc [("_law_one", 6), ("_law_other", 7)] nd_22 (id_val (xv 4 (.inl rfl))) (show BlkOk nm_22 (defScope st_22) _ [("_law_one", 6), ("_law_other", 7)] from ⟨rfl, by decide +kernel, by decide +kernel, by decide +kernel, by decide +kernel⟩) ⟨fun _ _ _ _ _ => (gtup (gcons (gname 6 nd_22 (.inl rfl) (.inr rfl)) (gcons (gname 7 nd_22 (.inl rfl) (.inr rfl)) gds_nil))), fun _ _ _ _ _ => ptsYes, fun _ _ _ _ _ => (pd_orV (xv 6 (.inl rfl)) (pe_one (xv 7 (.inl rfl))))⟩))) sd_nil)
    (sd_one (sd_ret (xlc [("_law_one", 6), ("_law_other", 7)] nd_22 (id_val (xv 4 (.inl rfl))) (show BlkOk nm_22 (defScope st_22) _ [("_law_one", 6), ("_law_other", 7)] from ⟨rfl, by decide +kernel, by decide +kernel, by decide +kernel, by decide +kernel⟩) ⟨fun _ _ _ _ _ => (gtup (gcons (gname 6 nd_22 (.inl rfl) (.inr rfl)) (gcons (gname 7 nd_22 (.inl rfl) (.inr rfl)) gds_nil))), fun _ _ _ _ _ => ptsYes, fun _ _ _ _ _ => (xcmp (opd_ne hr.units) (xv 6 (.inl rfl)) (xv 7 (.inl rfl)))⟩))))))))))
abbrev nm_23 : List Str := ["_law_pen_here", "_law_frame_here", "_law_places", "_law_ties", "_law_word", "_law_a", "_law_k"]
theorem nd_23 : nm_23.Nodup := by decide +kernel
abbrev st_23 : Stmt := top 28
theorem sc_23 : FnScope nm_23 ["_law_pen_here", "_law_frame_here"] (defScope st_23) := ⟨rfl, rfl, rfl, nd_23, rfl, by decide +kernel, by decide +kernel⟩
theorem bd_23 (F : Fa K mg base ff fd cc tP) {k : Nat} {lv : Lv} (L : LvOk P w K mg base CX0 ⟨K, Tabs tP⟩ none (Fs ff fd) (k + 1) lv) {f : Addr} {cdv : Value} {A : Around} {outer : List PySem.Env} {s : Shared} {H : Hp} {E : XK}
    (hr : Gr.RoomG (k + 1) (A.deeper (envOfC "_law_plain_wish" (defScope st_23) s.heap.objs.size f cdv))) : PSs (cxOf CX0 P w K mg base nm_23 "_law_plain_wish" (defScope st_23) f cdv A outer s H E).nox (defBody st_23) (semS ⟨K, Tabs tP⟩ noE lv dn_23) :=
  (sd_cons (zasg (xv 1 (.inl rfl)) (gtup (gcons (gname 2 nd_23 (.inl rfl) (.inl rfl)) (gcons (gname 3 nd_23 (.inl rfl) (.inl rfl)) gds_nil))))
    (sd_cons (zasg (pd_lst (xcons xstr (xcons xstr (xcons xstr (xcons xstr (xcons xstr (xcons xstr (xcons xstr (xcons xstr (xcons xstr (xcons xstr (xcons xstr (xcons xstr pd_nil))))))))))))) (gname 4 nd_23 (.inl rfl) (.inl rfl)))
    (sd_cons (zasg (xix (xv 4 (.inl rfl)) (xcall 14 L F.T hr pass_00 (fun _ => rfl) rfl rfl rfl (xcons (xv 0 (.inr (.inl rfl))) (xcons xint pd_nil)))) (gname 4 nd_23 (.inl rfl) (.inl rfl)))
    (sd_cons (sd_if (ycmp (opd_eq hr.units) (xv 4 (.inl rfl)) xstr) (sd_one (sd_ret (pd_tup (xcons (xv 4 (.inl rfl)) (xcons (xix (pd_lst (xcons (xcall 14 L F.T hr pass_00 (fun _ => rfl) rfl rfl rfl (xcons (xv 0 (.inr (.inl rfl))) (xcons xint pd_nil))) (xcons xint pd_nil))) (xintc F.b_int (xcons (xcmp (opd_eq hr.units) (xcall 14 L F.T hr pass_00 (fun _ => rfl) rfl rfl rfl (xcons (xv 0 (.inr (.inl rfl))) (xcons xint pd_nil))) xint) pd_nil))) pd_nil))))) sd_nil)
    (sd_cons (sd_if (ycmp (opd_eq hr.units) (xv 4 (.inl rfl)) xstr) (sd_one (sd_ret (pd_tup (xcons (xv 4 (.inl rfl)) (xcons (xcall 14 L F.T hr pass_00 (fun _ => rfl) rfl rfl rfl (xcons (xv 0 (.inr (.inl rfl))) (xcons (xv 2 (.inl rfl)) pd_nil))) (xcons (xix (pd_lst (xcons (xcall 14 L F.T hr pass_00 (fun _ => rfl) rfl rfl rfl (xcons (xv 0 (.inr (.inl rfl))) (xcons xint pd_nil))) (xcons xint pd_nil))) (xintc F.b_int (xcons (xcmp (opd_eq hr.units) (xcall 14 L F.T hr pass_00 (fun _ => rfl) rfl rfl rfl (xcons (xv 0 (.inr (.inl rfl))) (xcons xint pd_nil))) xint) pd_nil))) pd_nil)))))) sd_nil)
    (sd_cons (sd_if (ycmp (opd_eq hr.units) (xv 4 (.inl rfl)) xstr) (sd_one (sd_ret (pd_tup (xcons (xv 4 (.inl rfl)) (xcons (xtuple F.b_tuple (xcons (xlc [("_law_k", 6)] nd_23 (irng1 F.b_range (xcons (pd_op opd_shl xint (xlen F.b_len (xcons (xv 3 (.inl rfl)) pd_nil))) pd_nil)) (show BlkOk nm_23 (defScope st_23) _ [("_law_k", 6)] from ⟨rfl, by decide +kernel, by decide +kernel, by decide +kernel, by decide +kernel⟩) ⟨fun _ _ _ _ _ => (gname 6 nd_23 (.inl rfl) (.inr rfl)), fun _ _ _ _ _ => ptsYes, fun _ _ _ _ _ => (xcmp (opd_eq hr.units) (xcall 14 L F.T hr pass_00 (fun _ => rfl) rfl rfl rfl (xcons (xv 0 (.inr (.inl rfl))) (xcons xint pd_nil))) xint)⟩) pd_nil)) pd_nil))))) sd_nil)
    (sd_cons (sd_if (PW.pt (td_and (ycmp (opd_eq hr.units) (xv 4 (.inl rfl)) xstr) (td_and1 (ycmp (opd_ne hr.units) (xv 3 (.inl rfl)) (pd_tup pd_nil))))) (sd_one (sd_ret (pd_op opd_add (pd_tup (xcons (xv 4 (.inl rfl)) pd_nil)) (xix (xv 3 (.inl rfl)) (xcall 14 L F.T hr pass_00 (fun _ => rfl) rfl rfl rfl (xcons (xv 0 (.inr (.inl rfl))) (xcons (xlen F.b_len (xcons (xv 3 (.inl rfl)) pd_nil)) pd_nil))))))) sd_nil)
    (sd_cons (sd_if (PW.pt (td_and (ycmpI (opd_in (units66 hr)) (xv 4 (.inl rfl)) (pd_tup (xcons xstr (xcons xstr pd_nil)))) (td_and1 (ycmp (opd_gt) (xv 2 (.inl rfl)) xint)))) (sd_cons (zasg (xcall 14 L F.T hr pass_00 (fun _ => rfl) rfl rfl rfl (xcons (xv 0 (.inr (.inl rfl))) (xcons (pd_op opd_sub (xv 2 (.inl rfl)) xint) pd_nil))) (gname 5 nd_23 (.inl rfl) (.inl rfl)))
    (sd_one (sd_ret (pd_tup (xcons xstr (xcons (xv 5 (.inl rfl)) (xcons (pd_op opd_add (pd_op opd_add (xv 5 (.inl rfl)) xint) (xcall 14 L F.T hr pass_00 (fun _ => rfl) rfl rfl rfl (xcons (xv 0 (.inr (.inl rfl))) (xcons (pd_op opd_sub (pd_op opd_sub (xv 2 (.inl rfl)) xint) (xv 5 (.inl rfl))) pd_nil)))) pd_nil))))))) sd_nil)
    (sd_one (sd_ret (pd_tup (xcons (xix (pd_lst (xcons (xv 4 (.inl rfl)) (xcons xstr pd_nil))) (xintc F.b_int (xcons (xcmpI (opd_in (units66 hr)) (xv 4 (.inl rfl)) (pd_tup (xcons xstr (xcons xstr pd_nil)))) pd_nil))) pd_nil))))))))))))
abbrev nm_24 : List Str := ["_law_pen_here", "_law_frame_here", "_law_room", "_law_kind", "_law_first", "_law_one"]
theorem nd_24 : nm_24.Nodup := by decide +kernel
abbrev st_24 : Stmt := top 29
theorem sc_24 : FnScope nm_24 ["_law_pen_here", "_law_frame_here", "_law_room"] (defScope st_24) := ⟨rfl, rfl, rfl, nd_24, rfl, by decide +kernel, by decide +kernel⟩
theorem bd_24 (F : Fa K mg base ff fd cc tP) {k : Nat} {lv : Lv} (L : LvOk P w K mg base CX0 ⟨K, Tabs tP⟩ none (Fs ff fd) (k + 1) lv) {f : Addr} {cdv : Value} {A : Around} {outer : List PySem.Env} {s : Shared} {H : Hp} {E : XK}
    (hr : Gr.RoomG (k + 1) (A.deeper (envOfC "_law_wish" (defScope st_24) s.heap.objs.size f cdv))) : PSs (cxOf CX0 P w K mg base nm_24 "_law_wish" (defScope st_24) f cdv A outer s H E).nox (defBody st_24) (semS ⟨K, Tabs tP⟩ noE lv dn_24) :=
  (sd_cons (zasg (xcall 14 L F.T hr pass_00 (fun _ => rfl) rfl rfl rfl (xcons (xv 0 (.inl rfl)) (xcons xint pd_nil))) (gname 3 nd_24 (.inl rfl) (.inl rfl)))
    (sd_cons (sd_if (PW.pt (td_or (ycmp (opd_lt hr.units0) (xv 2 (.inl rfl)) xint) (td_or1 (ycmp (opd_gt) (xv 3 (.inl rfl)) xint)))) (sd_one (sd_ret (xcall 23 L F.T hr pass_00 (fun _ => rfl) rfl rfl rfl (xcons (xv 0 (.inl rfl)) (xcons (xv 1 (.inl rfl)) pd_nil))))) sd_nil)
    (sd_cons (sd_if (PW.pt (td_or (ycmp (opd_lt hr.units0) (xv 2 (.inl rfl)) xint) (td_or1 (ycmp (opd_lt hr.units0) (xv 3 (.inl rfl)) xint)))) (sd_one (sd_ret (pd_tup (xcons (xix (pd_lst (xcons xstr (xcons xstr pd_nil))) (xcall 14 L F.T hr pass_00 (fun _ => rfl) rfl rfl rfl (xcons (xv 0 (.inl rfl)) (xcons xint pd_nil)))) (xcons (xcall 24 L F.T hr pass_00 (fun _ => rfl) rfl rfl rfl (xcons (xv 0 (.inl rfl)) (xcons (xv 1 (.inl rfl)) (xcons (pd_op opd_sub (xv 2 (.inl rfl)) xint) pd_nil)))) pd_nil))))) sd_nil)
    (sd_cons (zasg (pd_op opd_add xint (xcall 14 L F.T hr pass_00 (fun _ => rfl) rfl rfl rfl (xcons (xv 0 (.inl rfl)) (xcons (pd_op opd_sub (xv 2 (.inl rfl)) xint) pd_nil)))) (gname 4 nd_24 (.inl rfl) (.inl rfl)))
    (sd_cons (zasg (xcall 24 L F.T hr pass_00 (fun _ => rfl) rfl rfl rfl (xcons (xv 0 (.inl rfl)) (xcons (xv 1 (.inl rfl)) (xcons (xv 4 (.inl rfl)) pd_nil)))) (gname 5 nd_24 (.inl rfl) (.inl rfl)))
    (sd_one (sd_ret (pd_tup (xcons (xix (pd_lst (xcons xstr (xcons xstr (xcons xstr pd_nil)))) (xcall 14 L F.T hr pass_00 (fun _ => rfl) rfl rfl rfl (xcons (xv 0 (.inl rfl)) (xcons xint pd_nil)))) (xcons (xv 5 (.inl rfl)) (xcons (xcall 24 L F.T hr pass_00 (fun _ => rfl) rfl rfl rfl (xcons (xv 0 (.inl rfl)) (xcons (xv 1 (.inl rfl)) (xcons (pd_op opd_sub (pd_op opd_sub (xv 2 (.inl rfl)) xint) (xv 4 (.inl rfl))) pd_nil)))) pd_nil)))))))))))
abbrev nm_25 : List Str := ["_law_pen_here", "_law_frame_here", "_law_wish_here", "_law_truths", "_law_some", "_law_bent", "_law_turn", "_law_at", "_law_last"]
theorem nd_25 : nm_25.Nodup := by decide +kernel
abbrev st_25 : Stmt := top 30
theorem sc_25 : FnScope nm_25 ["_law_pen_here", "_law_frame_here", "_law_wish_here", "_law_truths"] (defScope st_25) := ⟨rfl, rfl, rfl, nd_25, rfl, by decide +kernel, by decide +kernel⟩
theorem bd_25 (F : Fa K mg base ff fd cc tP) {k : Nat} {lv : Lv} (L : LvOk P w K mg base CX0 ⟨K, Tabs tP⟩ none (Fs ff fd) (k + 1) lv) {f : Addr} {cdv : Value} {A : Around} {outer : List PySem.Env} {s : Shared} {H : Hp} {E : XK}
    (hr : Gr.RoomG (k + 1) (A.deeper (envOfC "_law_beside" (defScope st_25) s.heap.objs.size f cdv))) : PSs (cxOf CX0 P w K mg base nm_25 "_law_beside" (defScope st_25) f cdv A outer s H E).nox (defBody st_25) (semS ⟨K, Tabs tP⟩ noE lv dn_25) :=
  (sd_cons (zasg (pd_lst (xcons (xv 2 (.inl rfl)) (xcons (pd_tup (xcons xstr (xcons (pd_tup (xcons xstr (xcons (xv 2 (.inl rfl)) pd_nil))) pd_nil))) (xcons (pd_tup (xcons xstr (xcons (pd_tup (xcons xstr (xcons (xv 2 (.inl rfl)) pd_nil))) pd_nil))) (xcons (pd_tup (xcons xstr (xcons (xv 2 (.inl rfl)) pd_nil))) pd_nil))))) (gname 4 nd_25 (.inl rfl) (.inl rfl)))
    (sd_cons (zexpr (st := sNil) (xmt PySem.F.slot_list_append PySem.F.type_list_append mtd_append (xv 4 (.inl rfl)) (xcons (pd_tup (xcons xstr (xcons (pd_tup (xcons xstr (xcons (pd_tup (xcons xstr (xcons (xv 2 (.inl rfl)) pd_nil))) (xcons (pd_tup (xcons xstr (xcons (xv 2 (.inl rfl)) pd_nil))) pd_nil)))) pd_nil))) pd_nil)))
    (sd_cons (zexpr (st := sNil) (xmt PySem.F.slot_list_append PySem.F.type_list_append mtd_append (xv 4 (.inl rfl)) (xcons (pd_tup (xcons xstr (xcons (xtuple F.b_tuple (xcons (xv 3 (.inl rfl)) pd_nil)) pd_nil))) pd_nil)))
    (sd_cons (zasg (xlist F.b_list (xcons (xv 3 (.inl rfl)) pd_nil)) (gname 5 nd_25 (.inl rfl) (.inl rfl)))
    (sd_cons (zfor PassesOwn.never (irng1 F.b_range (xcons xint pd_nil)) (gname 6 nd_25 (.inl rfl) (.inl rfl)) (sd_cons (zasg (xcall 14 L F.T hr pass_00 (fun _ => rfl) rfl rfl rfl (xcons (xv 0 (.inl rfl)) (xcons (xlen F.b_len (xcons (xv 5 (.inl rfl)) pd_nil)) pd_nil))) (gname 7 nd_25 (.inl rfl) (.inl rfl)))
    (sd_cons (zsub (xv 5 (.inl rfl)) (xv 7 (.inl rfl)) (pd_not (xix (xv 5 (.inl rfl)) (xv 7 (.inl rfl)))))
    (sd_one (zexpr (st := sNil) (xmt PySem.F.slot_list_append PySem.F.type_list_append mtd_append (xv 4 (.inl rfl)) (xcons (pd_tup (xcons xstr (xcons (xtuple F.b_tuple (xcons (xv 5 (.inl rfl)) pd_nil)) pd_nil))) pd_nil)))))))
    (sd_cons (zasg (pd_op opd_add (pd_sl (xv 3 (.inl rfl)) od_none (od_some (pd_un und_neg xint))) (pd_lst (xcons (pd_not (xix (xv 3 (.inl rfl)) (pd_un und_neg xint))) pd_nil))) (gname 8 nd_25 (.inl rfl) (.inl rfl)))
    (sd_one (sd_ret (pd_op opd_add (xv 4 (.inl rfl)) (pd_lst (xcons (pd_tup (xcons xstr (xcons (xtuple F.b_tuple (xcons (xv 8 (.inl rfl)) pd_nil)) pd_nil))) (xcons (xcall 24 L F.T hr pass_00 (fun _ => rfl) rfl rfl rfl (xcons (xv 0 (.inl rfl)) (xcons (xv 1 (.inl rfl)) (xcons xint pd_nil)))) (xcons (pd_tup (xcons xstr (xcons (xv 2 (.inl rfl)) (xcons (xv 2 (.inl rfl)) pd_nil)))) pd_nil)))))))))))))
abbrev nm_26 : List Str := ["_law_script", "_law_k", "_law_pen_here", "_law_frame_here", "_law_every", "_law_facts_here", "_law_wish_here", "_law_truths", "_law_other", "_law_rows", "_law_due", "_law_kept", "_law_found", "_law_web", "_law_one", "_law_two"]
theorem nd_26 : nm_26.Nodup := by decide +kernel
abbrev st_26 : Stmt := top 31
theorem sc_26 : FnScope nm_26 ["_law_script"] (defScope st_26) := ⟨rfl, rfl, rfl, nd_26, rfl, by decide +kernel, by decide +kernel⟩
theorem bd_26 (F : Fa K mg base ff fd cc tP) {k : Nat} {lv : Lv} (L : LvOk P w K mg base CX0 ⟨K, Tabs tP⟩ none (Fs ff fd) (k + 1) lv) {f : Addr} {cdv : Value} {A : Around} {outer : List PySem.Env} {s : Shared} {H : Hp} {E : XK}
    (hr : Gr.RoomG (k + 1) (A.deeper (envOfC "law" (defScope st_26) s.heap.objs.size f cdv))) : PSs (cxOf CX0 P w K mg base nm_26 "law" (defScope st_26) f cdv A outer s H E).nox (defBody st_26) (semS ⟨K, Tabs tP⟩ noE lv dn_26) :=
  (sd_cons (zfor PassesOwn.never (irng1 F.b_range (xcons (xmax F.b_max (xcons xint (xcons (xmin F.b_min (xcons xint (xcons (xlen F.b_len (xcons (xv 0 (.inl rfl)) pd_nil)) pd_nil))) pd_nil))) pd_nil)) (gname 1 nd_26 (.inl rfl) (.inl rfl)) (sd_cons (zasg (xcall 13 L F.T hr pass_00 (fun _ => rfl) rfl rfl rfl (xcons (xv 0 (.inl rfl)) (xcons (xv 1 (.inl rfl)) pd_nil))) (gname 2 nd_26 (.inl rfl) (.inl rfl)))
    (sd_cons (zasg (xcall 15 L F.T hr pass_00 (fun _ => rfl) rfl rfl rfl (xcons (xv 2 (.inl rfl)) (xcons (xix (pd_lst (xcons xint (xcons xint (xcons xint (xcons xint (xcons xint (xcons xint (xcons xint (xcons xint pd_nil))))))))) (xcall 14 L F.T hr pass_00 (fun _ => rfl) rfl rfl rfl (xcons (xv 2 (.inl rfl)) (xcons xint pd_nil)))) pd_nil))) (gname 3 nd_26 (.inl rfl) (.inl rfl)))
    (sd_cons (zasg (xcall 16 L F.T hr pass_00 (fun _ => rfl) rfl rfl rfl (xcons (xv 3 (.inl rfl)) pd_nil)) (gname 4 nd_26 (.inl rfl) (.inl rfl)))
    (sd_cons (zasg (xcall 21 L F.T hr pass_00 (fun _ => rfl) rfl rfl rfl (xcons (xv 3 (.inl rfl)) pd_nil)) (gname 5 nd_26 (.inl rfl) (.inl rfl)))
    (sd_cons (zasg (xcall 24 L F.T hr pass_00 (fun _ => rfl) rfl rfl rfl (xcons (xv 2 (.inl rfl)) (xcons (xv 3 (.inl rfl)) (xcons xint pd_nil)))) (gname 6 nd_26 (.inl rfl) (.inl rfl)))
    (sd_cons (zasg (xcall 22 L F.T hr pass_00 (fun _ => rfl) rfl rfl rfl (xcons (xv 5 (.inl rfl)) (xcons (xv 6 (.inl rfl)) pd_nil))) (gname 7 nd_26 (.inl rfl) (.inl rfl)))
    (sd_one (zfor PassesOwn.never (id_val (xcall 25 L F.T hr pass_00 (fun _ => rfl) rfl rfl rfl (xcons (xv 2 (.inl rfl)) (xcons (xv 3 (.inl rfl)) (xcons (xv 6 (.inl rfl)) (xcons (xv 7 (.inl rfl)) pd_nil)))))) (gname 8 nd_26 (.inl rfl) (.inl rfl)) (sd_cons (zasg (xlz3 F.b_list F.b_zip (xcons (xv 4 (.inl rfl)) (xcons (xv 7 (.inl rfl)) (xcons (xcall 22 L F.T hr pass_00 (fun _ => rfl) rfl rfl rfl (xcons (xv 5 (.inl rfl)) (xcons (xv 8 (.inl rfl)) pd_nil))) pd_nil)))) (gname 9 nd_26 (.inl rfl) (.inl rfl)))
    (sd_cons (zasg (xix (pd_op opd_add (xlc [("_law_web", 13), ("_law_one", 14), ("_law_two", 15)] nd_26 (id_val (xv 9 (.inl rfl))) (show BlkOk nm_26 (defScope st_26) _ [("_law_web", 13), ("_law_one", 14), ("_law_two", 15)] from ⟨rfl, by decide +kernel, by decide +kernel, by decide +kernel, by decide +kernel⟩) ⟨fun _ _ _ _ _ => (gtup (gcons (gname 13 nd_26 (.inl rfl) (.inr rfl)) (gcons (gname 14 nd_26 (.inl rfl) (.inr rfl)) (gcons (gname 15 nd_26 (.inl rfl) (.inr rfl)) gds_nil)))), fun _ _ _ _ _ => (pts_one (ycmp (opd_ne hr.units) (xv 14 (.inl rfl)) (xv 15 (.inl rfl)))), fun _ _ _ _ _ => (xv 13 (.inl rfl))⟩) (pd_lst (xcons xnon pd_nil))) xint) (gname 10 nd_26 (.inl rfl) (.inl rfl)))
    (sd_cons (zasg (xrepr hr F.b_repr (xcons (pd_tup (xcons (xv 3 (.inl rfl)) (xcons (xv 6 (.inl rfl)) (xcons (xv 8 (.inl rfl)) pd_nil)))) pd_nil)) (gname 11 nd_26 (.inl rfl) (.inl rfl)))
    (sd_cons (zasg (xcall 12 L F.T hr pass_00 (fun _ => rfl) rfl rfl rfl (xcons (xv 3 (.inl rfl)) (xcons (xv 6 (.inl rfl)) (xcons (xv 8 (.inl rfl)) pd_nil)))) (gname 12 nd_26 (.inl rfl) (.inl rfl)))
    (sd_cons (sd_if (PW.pt (td_or (ycmp (opd_ne hr.units) (xrepr hr F.b_repr (xcons (xv 12 (.inl rfl)) pd_nil)) (xrepr hr F.b_repr (xcons (xv 10 (.inl rfl)) pd_nil))) (td_or1 (ycmp (opd_ne hr.units) (xrepr hr F.b_repr (xcons (xcall 12 L F.T hr pass_00 (fun _ => rfl) rfl rfl rfl (xcons (xv 3 (.inl rfl)) (xcons (xv 8 (.inl rfl)) (xcons (xv 6 (.inl rfl)) pd_nil)))) pd_nil)) (xrepr hr F.b_repr (xcons (xv 10 (.inl rfl)) pd_nil)))))) (sd_one (sd_ret xbl)) sd_nil)
    (sd_one (sd_if (ycmp (opd_ne hr.units) (xrepr hr F.b_repr (xcons (pd_tup (xcons (xv 3 (.inl rfl)) (xcons (xv 6 (.inl rfl)) (xcons (xv 8 (.inl rfl)) pd_nil)))) pd_nil)) (xv 11 (.inl rfl))) (sd_one (sd_ret xbl)) sd_nil))))))))))))))))
    (sd_one (sd_ret xbl)))
end
end Kj

namespace Dv
open PySem

section
variable {α β : Type} {Q : α → Sto → Prop} {W : Nat → Sto → Prop} {S : Sto}
theorem wpq {x : R α} : (quiet x).wp Q W ↔ x.wp Q noX := by cases x <;> exact Iff.rfl
theorem wpi {c : Prop} [Decidable c] {x y : R α} : (if c then x else y).wp Q W ↔ (c → x.wp Q W) ∧ (¬ c → y.wp Q W) := by by_cases h : c <;> simp [h]
theorem wps {x : R α} {ρ : Env} {f : α → Sto → R Fl} {Q : Fl → Sto → Prop} : (x.bindS ρ f).wp Q W ↔ x.wp (fun a S => (f a S).wp Q W) (fun c S => Q (.xc c ρ) S) := by cases x <;> exact Iff.rfl
/-- no error comes, and so much is known of the value -/
theorem R.to {x : R α} {Q' : α → Sto → Prop} (h : x.wp Q noX) (i : ∀ a S, Q a S → Q' a S) : x.wp Q' W := R.wp_mono h i fun _ _ z => z.elim
theorem R.wp_get {x : R α} (h : x.wp Q noX) : ∃ a S, x = .ok a S ∧ Q a S := by
  cases x with
  | ok a S => exact ⟨a, S, rfl, h⟩
  | ex c S => exact h.elim
  | no => exact h.elim
theorem R.eq_of {x : R α} {a : α} (h : x.wp (fun b T => b = a ∧ T = S) noX) : x = .ok a S := by
  obtain ⟨b, T, e, rfl, rfl⟩ := R.wp_get h
  exact e
end
/-- how a def ends -/
def FlR (Q : D → Sto → Prop) (W : Nat → Sto → Prop) : Fl → Sto → Prop := fun f S => match f with
  | .nx _ => Q .non S
  | .rt d => Q d S
  | .xc c _ => W c S
  | _ => False
theorem wpF {b : DenS} {n : Nat} {lv : Lv} {ds : List D} {S : Sto} {Q : D → Sto → Prop} {W : Nat → Sto → Prop} (h : (b lv (startE n ds) S).wp (FlR Q W) noX) : (runF b n lv ds S).wp Q W := by
  unfold runF
  obtain ⟨f, S1, e, q⟩ := R.wp_get h
  rw [e]
  cases f <;> first | exact q | exact q.elim
theorem wpP {bs : Bodies} {m i : Nat} {b : DenS} {n : Nat} {ds : List D} {S : Sto} {Q : D → Sto → Prop} {W : Nat → Sto → Prop} (hm : 2 ≤ m) (hb : bs[i]? = some (b, n)) (h : (b (Phi bs (m - 1)) (startE n ds) S).wp (FlR Q W) noX) : (Phi bs m 0 i ds S).wp Q W := by
  obtain ⟨k, rfl⟩ : ∃ k, m = k + 2 := ⟨m - 2, by omega⟩
  rw [Phi_run hb]
  exact wpF h
theorem dnP {bs : Bodies} {m : Nat} (hm : 1 ≤ m) : (Phi bs m).dn = Phi bs (m - 1) := by
  obtain ⟨k, rfl⟩ : ∃ k, m = k + 1 := ⟨m - 1, by omega⟩
  rfl
/-- of what kind a thing is -/
@[simp] def isTp : D → Bool
  | .tup _ => true
  | _ => false
@[simp] def isIn : D → Bool
  | .int _ => true
  | .bl _ => true
  | _ => false
@[simp] def isBo : D → Bool
  | .bl _ => true
  | _ => false
@[simp] def isSt : D → Bool
  | .str _ => true
  | _ => false
section
variable {d : D} {S : Sto}
@[simp] theorem kd_t : isK (kdOf d S) .tup = isTp d := by
  cases d with
  | ref i =>
    unfold kdOf
    dsimp only
    split <;> rfl
  | _ => rfl
@[simp] theorem kd_i : isK (kdOf d S) .int = isIn d := by
  cases d with
  | ref i =>
    unfold kdOf
    dsimp only
    split <;> rfl
  | _ => rfl
@[simp] theorem kd_b : isK (kdOf d S) .bl = isBo d := by
  cases d with
  | ref i =>
    unfold kdOf
    dsimp only
    split <;> rfl
  | _ => rfl
@[simp] theorem kd_s : isK (kdOf d S) .str = isSt d := by
  cases d with
  | ref i =>
    unfold kdOf
    dsimp only
    split <;> rfl
  | _ => rfl
end
/-- walks -/
def forQ (J : Dv.Env → Sto → Prop) (Q : Fl → Sto → Prop) : Fl → Sto → Prop := fun f S2 => match f with
  | .nx ρ2 => J ρ2 S2
  | .ct ρ2 => J ρ2 S2
  | .bk ρ2 => Q (.nx ρ2) S2
  | .rt d => Q (.rt d) S2
  | .xc c ρ2 => Q (.xc c ρ2) S2
section
variable {J : Dv.Env → Sto → Prop} {Q : Fl → Sto → Prop} {ρ : Dv.Env} {S : Sto}
@[simp] theorem forQ_nx : forQ J Q (.nx ρ) S ↔ J ρ S := id Iff.rfl
@[simp] theorem forQ_ct : forQ J Q (.ct ρ) S ↔ J ρ S := id Iff.rfl
@[simp] theorem forQ_bk : forQ J Q (.bk ρ) S ↔ Q (.nx ρ) S := id Iff.rfl
@[simp] theorem forQ_rt {d : D} : forQ J Q (.rt d) S ↔ Q (.rt d) S := id Iff.rfl
@[simp] theorem forQ_xc {c : Nat} : forQ J Q (.xc c ρ) S ↔ Q (.xc c ρ) S := id Iff.rfl
end
theorem for_inv {chk : Sto → Prop} {t : Tg} {body : Dv.Env → Sto → R Fl} {Q : Fl → Sto → Prop} {W : Nat → Sto → Prop} (I : List D → Dv.Env → Sto → Prop)
    (step : ∀ x xs ρ S, I (x :: xs) ρ S → chk S ∧ ∃ ρ1, tgD t x ρ = some ρ1 ∧ (body ρ1 S).wp (forQ (I xs) Q) W)
    (fin : ∀ ρ S, I [] ρ S → chk S ∧ Q (.nx ρ) S) : ∀ xs ρ S, I xs ρ S → (forGo chk t body xs ρ S).wp Q W
  | [], ρ, S, h => by
    obtain ⟨h1, h2⟩ := fin ρ S h
    unfold forGo
    rw [if_pos h1]
    exact h2
  | x :: xs, ρ, S, h => by
    obtain ⟨h1, ρ1, h2, h3⟩ := step x xs ρ S h
    unfold forGo
    rw [if_pos h1]
    simp only [h2]
    refine R.wp_bind.mpr (R.wp_mono h3 (fun f S2 q => ?_) fun _ _ z => z)
    cases f with
    | nx ρ2 => exact for_inv I step fin xs ρ2 S2 q
    | ct ρ2 => exact for_inv I step fin xs ρ2 S2 q
    | bk ρ2 => exact q
    | rt d => exact q
    | xc c ρ2 => exact q
def lcQ2 (n : Nat) (J : Sto → Prop) : D → Sto → Prop := fun y S2 => ∃ acc, S2[n]? = some (.lst true acc) ∧ acc.length < mx ∧ J (S2.set n (.lst true (acc ++ [y])))
def lcQ1 (n : Nat) (elt : Sto → R D) (J : Sto → Prop) : Bool → Sto → Prop := fun b S1 => (b = true → (elt S1).wp (lcQ2 n J) noX) ∧ (b = false → J S1)
@[simp] theorem lcQ1_t {n : Nat} {elt : Sto → R D} {J : Sto → Prop} {S : Sto} : lcQ1 n elt J true S ↔ (elt S).wp (lcQ2 n J) noX := ⟨fun h => h.1 rfl, fun h => ⟨fun _ => h, fun e => by cases e⟩⟩
@[simp] theorem lcQ1_f {n : Nat} {elt : Sto → R D} {J : Sto → Prop} {S : Sto} : lcQ1 n elt J false S ↔ J S := ⟨fun h => h.2 rfl, fun h => ⟨fun e => absurd e (by decide), fun _ => h⟩⟩
/-- comprehensions -/
theorem lc_inv {n : Nat} {chk : Sto → Prop} {t : Tg} {cond : Dv.Env → Sto → R Bool} {elt : Dv.Env → Sto → R D} {ρ : Dv.Env} {Q : D → Sto → Prop} {W : Nat → Sto → Prop} (I : List D → Sto → Prop)
    (step : ∀ x xs S, I (x :: xs) S → chk S ∧ ∃ ρ1, tgD t x ρ = some ρ1 ∧ (cond ρ1 S).wp (lcQ1 n (elt ρ1) (I xs)) noX)
    (fin : ∀ S, I [] S → chk S ∧ Q (.ref n) S) : ∀ xs S, I xs S → (lcGo n chk t cond elt ρ xs S).wp Q W
  | [], S, h => by
    obtain ⟨h1, h2⟩ := fin S h
    unfold lcGo
    rw [if_pos h1]
    exact h2
  | x :: xs, S, h => by
    obtain ⟨h1, ρ1, h2, h3⟩ := step x xs S h
    unfold lcGo
    rw [if_pos h1]
    simp only [h2]
    refine R.wp_bind.mpr (wpq.mpr (R.wp_mono h3 (fun b S1 q => ?_) fun _ _ z => z))
    cases b with
    | false =>
      exact lc_inv I step fin xs S1 (q.2 rfl)
    | true =>
      refine R.wp_bind.mpr (wpq.mpr (R.wp_mono (q.1 rfl) (fun y S2 q2 => ?_) fun _ _ z => z))
      obtain ⟨acc, e1, e2, q3⟩ := q2
      simp only [e1]
      rw [if_pos e2]
      exact lc_inv I step fin xs _ q3
end Dv

namespace Dv
open PySem

/-! ### one step behind another: what comes first is worked out first; what is to come is a name with its things -/
@[simp] theorem mx_v : mx = 1000000 := id rfl
/-- what is to come behind a part -/
def bK {α β : Type} (f : α → Sto → R β) (Q : β → Sto → Prop) (W : Nat → Sto → Prop) : α → Sto → Prop := fun a S => (f a S).wp Q W
@[simp] theorem bK_ap {α β : Type} {f : α → Sto → R β} {Q : β → Sto → Prop} {W : Nat → Sto → Prop} {a : α} {S : Sto} : bK f Q W a S ↔ (f a S).wp Q W := id Iff.rfl
def xK (Q : Fl → Sto → Prop) (ρ : Dv.Env) : Nat → Sto → Prop := fun c S => Q (.xc c ρ) S
@[simp] theorem xK_ap {Q : Fl → Sto → Prop} {ρ : Dv.Env} {c : Nat} {S : Sto} : xK Q ρ c S ↔ Q (.xc c ρ) S := id Iff.rfl
@[simp] theorem wB {α β : Type} {x : R α} {f : α → Sto → R β} {Q : β → Sto → Prop} {W : Nat → Sto → Prop} : (x.bind f).wp Q W ↔ x.wp (bK f Q W) W := R.wp_bind
@[simp] theorem wS {α : Type} {x : R α} {ρ : Dv.Env} {f : α → Sto → R Fl} {Q : Fl → Sto → Prop} {W : Nat → Sto → Prop} : (x.bindS ρ f).wp Q W ↔ x.wp (bK f Q W) (xK Q ρ) := wps
@[simp] theorem wQ {α : Type} {x : R α} {Q : α → Sto → Prop} {W : Nat → Sto → Prop} : (quiet x).wp Q W ↔ x.wp Q noX := wpq
theorem wpg {α : Type} {c : Prop} [Decidable c] {x : R α} {Q : α → Sto → Prop} {W : Nat → Sto → Prop} : (if c then x else R.no).wp Q W ↔ c ∧ x.wp Q W := by by_cases h : c <;> simp [h]
@[simp] theorem wpi2 {α : Type} {c : Prop} [Decidable c] {x y : R α} {Q : α → Sto → Prop} {W : Nat → Sto → Prop} : (if c then x else y).wp Q W ↔ (c → x.wp Q W) ∧ (¬ c → y.wp Q W) := wpi
@[simp high] theorem wpg2 {α : Type} {c : Prop} [Decidable c] {x : R α} {Q : α → Sto → Prop} {W : Nat → Sto → Prop} : (if c then x else R.no).wp Q W ↔ c ∧ x.wp Q W := wpg
@[simp] theorem quiet_ok {α : Type} {a : α} {S : Sto} : quiet (.ok a S) = .ok a S := id rfl
section
variable {Q : D → Sto → Prop} {W : Nat → Sto → Prop} {S : Sto} {ρ : Dv.Env}
@[simp] theorem FlR_rt {d : D} : FlR Q W (.rt d) S ↔ Q d S := id Iff.rfl
@[simp] theorem FlR_nx : FlR Q W (.nx ρ) S ↔ Q .non S := id Iff.rfl
@[simp] theorem FlR_xc {c : Nat} : FlR Q W (.xc c ρ) S ↔ W c S := id Iff.rfl
@[simp] theorem FlR_bk : FlR Q W (.bk ρ) S ↔ False := id Iff.rfl
@[simp] theorem FlR_ct : FlR Q W (.ct ρ) S ↔ False := id Iff.rfl
end
def optR : Option D → Sto → R D
  | some x, S => .ok x S
  | none, _ => .no
@[simp] theorem optR_some {x : D} {S : Sto} : optR (some x) S = .ok x S := id rfl
section
variable {lv : Lv} {ρ : Dv.Env} {S : Sto} {a b : Den} {ra : DenA} {ta tb : DenT}
@[simp] theorem ev_C {d : D} : dC d lv ρ S = .ok d S := id rfl
@[simp] theorem ev_nil : dNil lv ρ S = .ok [] S := id rfl
def cK2 (x : D) : List D → Sto → R (List D) := fun xs S => .ok (x :: xs) S
@[simp] theorem cK2_ap {x : D} {xs : List D} {S : Sto} : cK2 x xs S = .ok (x :: xs) S := id rfl
def cK1 (ra : DenA) (lv : Lv) (ρ : Dv.Env) : D → Sto → R (List D) := fun x S => (ra lv ρ S).bind (cK2 x)
@[simp] theorem cK1_ap {ra : DenA} {lv : Lv} {ρ : Dv.Env} {x : D} {S : Sto} : cK1 ra lv ρ x S = (ra lv ρ S).bind (cK2 x) := id rfl
@[simp] theorem ev_cons : dCons a ra lv ρ S = (a lv ρ S).bind (cK1 ra lv ρ) := id rfl
def opK2 (o : Op2) (x : D) : D → Sto → R D := fun y S => quiet (o x y S)
@[simp] theorem opK2_ap {o : Op2} {x : D} {y : D} {S : Sto} : opK2 o x y S = quiet (o x y S) := id rfl
def opK1 (o : Op2) (b : Den) (lv : Lv) (ρ : Dv.Env) : D → Sto → R D := fun x S => (b lv ρ S).bind (opK2 o x)
@[simp] theorem opK1_ap {o : Op2} {b : Den} {lv : Lv} {ρ : Dv.Env} {x : D} {S : Sto} : opK1 o b lv ρ x S = (b lv ρ S).bind (opK2 o x) := id rfl
@[simp] theorem ev_op {o : Op2} : dOp o a b lv ρ S = (a lv ρ S).bind (opK1 o b lv ρ) := id rfl
def unK (o : Op1) : D → Sto → R D := fun x S => quiet (o x S)
@[simp] theorem unK_ap {o : Op1} {x : D} {S : Sto} : unK o x S = quiet (o x S) := id rfl
@[simp] theorem ev_un {o : Op1} : dUn o a lv ρ S = (a lv ρ S).bind (unK o) := id rfl
def clK (o : OpN) : List D → Sto → R D := fun xs S => quiet (o xs S)
@[simp] theorem clK_ap {o : OpN} {xs : List D} {S : Sto} : clK o xs S = quiet (o xs S) := id rfl
@[simp] theorem ev_cl {o : OpN} : dCl o ra lv ρ S = (ra lv ρ S).bind (clK o) := id rfl
def tupK : List D → Sto → R D := fun xs S => if xs.length ≤ mx then .ok (.tup xs) S else .no
@[simp] theorem tupK_ap {xs : List D} {S : Sto} : tupK xs S = if xs.length ≤ mx then .ok (.tup xs) S else .no := id rfl
def lstK : List D → Sto → R D := fun xs S => if xs.length ≤ mx then .ok (.ref S.length) (S ++ [.lst true xs]) else .no
@[simp] theorem lstK_ap {xs : List D} {S : Sto} : lstK xs S = if xs.length ≤ mx then .ok (.ref S.length) (S ++ [.lst true xs]) else .no := id rfl
@[simp] theorem ev_tup : dTup ra lv ρ S = (ra lv ρ S).bind tupK := id rfl
@[simp] theorem ev_lst : dLst ra lv ρ S = (ra lv ρ S).bind lstK := id rfl
def isiK (T : Ty) : D → Sto → R D := fun d S => .ok (.bl (isK (kdOf d S) T)) S
@[simp] theorem isiK_ap {T : Ty} {d : D} {S : Sto} : isiK T d S = .ok (.bl (isK (kdOf d S) T)) S := id rfl
@[simp] theorem ev_isi {T : Ty} : dIsi T a lv ρ S = (a lv ρ S).bind (isiK T) := id rfl
def mtK2 (m : OpM) (x : D) : List D → Sto → R D := fun xs S => quiet (m x xs S)
@[simp] theorem mtK2_ap {m : OpM} {x : D} {xs : List D} {S : Sto} : mtK2 m x xs S = quiet (m x xs S) := id rfl
def mtK1 (m : OpM) (ra : DenA) (lv : Lv) (ρ : Dv.Env) : D → Sto → R D := fun x S => if isL x S = true then (ra lv ρ S).bind (mtK2 m x) else .no
@[simp] theorem mtK1_ap {m : OpM} {ra : DenA} {lv : Lv} {ρ : Dv.Env} {x : D} {S : Sto} : mtK1 m ra lv ρ x S = if isL x S = true then (ra lv ρ S).bind (mtK2 m x) else .no := id rfl
@[simp] theorem ev_mt {m : OpM} : dMt m a ra lv ρ S = (a lv ρ S).bind (mtK1 m ra lv ρ) := id rfl
def caK (i : Nat) (n : Nat) (lv : Lv) : List D → Sto → R D := fun xs S => if xs.length = n then lv 0 i xs S else .no
@[simp] theorem caK_ap {i : Nat} {n : Nat} {lv : Lv} {xs : List D} {S : Sto} : caK i n lv xs S = if xs.length = n then lv 0 i xs S else .no := id rfl
@[simp] theorem ev_call {i n : Nat} : dCallF i n ra lv ρ S = (ra lv ρ S).bind (caK i n lv) := id rfl
def varR : Option (Option D) → Sto → R D
  | some (some d), S => .ok d S
  | _, _ => .no
@[simp] theorem varR_s {d : D} : varR (some (some d)) S = .ok d S := id rfl
@[simp] theorem ev_var {i : Nat} : dVar i lv ρ S = varR ρ[i]? S := by
  unfold dVar varR
  cases ρ[i]? with
  | none => rfl
  | some o => cases o <;> rfl
def blR : D → Sto → R Bool
  | .bl c, S => .ok c S
  | _, _ => .no
@[simp] theorem blR_bl {c : Bool} : blR (.bl c) S = .ok c S := id rfl
@[simp] theorem ev_Bl : dBl a lv ρ S = (a lv ρ S).bind blR := by
  unfold dBl
  congr 1
  funext x S1
  cases x <;> rfl
def truR : Option Bool → Sto → R Bool
  | some c, S => .ok c S
  | none, _ => .no
@[simp] theorem truR_s {c : Bool} : truR (some c) S = .ok c S := id rfl
def trK : D → Sto → R Bool := fun x S => truR (truD x S) S
@[simp] theorem trK_ap {x : D} : trK x S = truR (truD x S) S := id rfl
@[simp] theorem ev_Tru : dTru a lv ρ S = (a lv ρ S).bind trK := by
  unfold dTru
  congr 1
  funext x S1
  unfold trK
  cases truD x S1 <;> rfl
def anT (tb : DenT) (lv : Lv) (ρ : Dv.Env) : Bool → Sto → R Bool := fun x S => if x = true then tb lv ρ S else .ok false S
@[simp] theorem anT_ap {tb : DenT} {lv : Lv} {ρ : Dv.Env} {x : Bool} {S : Sto} : anT tb lv ρ x S = if x = true then tb lv ρ S else .ok false S := id rfl
@[simp] theorem ev_anT : dAndT ta tb lv ρ S = (ta lv ρ S).bind (anT tb lv ρ) := id rfl
def orT (tb : DenT) (lv : Lv) (ρ : Dv.Env) : Bool → Sto → R Bool := fun x S => if x = true then .ok true S else tb lv ρ S
@[simp] theorem orT_ap {tb : DenT} {lv : Lv} {ρ : Dv.Env} {x : Bool} {S : Sto} : orT tb lv ρ x S = if x = true then .ok true S else tb lv ρ S := id rfl
@[simp] theorem ev_orT : dOrT ta tb lv ρ S = (ta lv ρ S).bind (orT tb lv ρ) := id rfl
def noT : Bool → Sto → R Bool := fun x S => .ok (!x) S
@[simp] theorem noT_ap  {x : Bool} {S : Sto} : noT x S = .ok (!x) S := id rfl
@[simp] theorem ev_notT : dNotT ta lv ρ S = (ta lv ρ S).bind noT := id rfl
def itK (a : Den) (b : Den) (lv : Lv) (ρ : Dv.Env) : Bool → Sto → R D := fun x S => if x = true then a lv ρ S else b lv ρ S
@[simp] theorem itK_ap {a : Den} {b : Den} {lv : Lv} {ρ : Dv.Env} {x : Bool} {S : Sto} : itK a b lv ρ x S = if x = true then a lv ρ S else b lv ρ S := id rfl
@[simp] theorem ev_ite : dIte ta a b lv ρ S = (ta lv ρ S).bind (itK a b lv ρ) := id rfl
@[simp] theorem ev_yes : tYesD lv ρ S = .ok true S := id rfl
def anV (b : Den) (lv : Lv) (ρ : Dv.Env) : D → Sto → R D
  | .bl c, S => if c = true then b lv ρ S else .ok (.bl false) S
  | _, _ => .no
def orV (b : Den) (lv : Lv) (ρ : Dv.Env) : D → Sto → R D
  | .bl c, S => if c = true then .ok (.bl true) S else b lv ρ S
  | _, _ => .no
@[simp] theorem anV_bl {c : Bool} : anV b lv ρ (.bl c) S = if c = true then b lv ρ S else .ok (.bl false) S := id rfl
@[simp] theorem orV_bl {c : Bool} : orV b lv ρ (.bl c) S = if c = true then .ok (.bl true) S else b lv ρ S := id rfl
@[simp] theorem ev_andV : dAndV a b lv ρ S = (a lv ρ S).bind (anV b lv ρ) := by
  unfold dAndV
  congr 1
  funext x S1
  cases x <;> first | rfl | (rename_i c; cases c <;> rfl)
@[simp] theorem ev_orV : dOrV a b lv ρ S = (a lv ρ S).bind (orV b lv ρ) := by
  unfold dOrV
  congr 1
  funext x S1
  cases x <;> first | rfl | (rename_i c; cases c <;> rfl)
def chK (k : DenK) (lv : Lv) (ρ : Dv.Env) : D → Sto → R D := fun x S => k x lv ρ S
@[simp] theorem chK_ap {k : DenK} {lv : Lv} {ρ : Dv.Env} {x : D} {S : Sto} : chK k lv ρ x S = k x lv ρ S := id rfl
@[simp] theorem ev_chain {k : DenK} : dChain a k lv ρ S = (a lv ρ S).bind (chK k lv ρ) := id rfl
@[simp] theorem ev_last {o : Op2} {x : D} : kLast o b x lv ρ S = (b lv ρ S).bind (opK2 o x) := id rfl
def lkV (k : DenK) (y : D) (lv : Lv) (ρ : Dv.Env) : D → Sto → R D
  | .bl c, S => if c = true then k y lv ρ S else .ok (.bl false) S
  | _, _ => .no
@[simp] theorem lkV_bl {k : DenK} {y : D} {c : Bool} : lkV k y lv ρ (.bl c) S = if c = true then k y lv ρ S else .ok (.bl false) S := id rfl
def lkK (o : Op2) (k : DenK) (x : D) (lv : Lv) (ρ : Dv.Env) : D → Sto → R D := fun y S => (quiet (o x y S)).bind (lkV k y lv ρ)
@[simp] theorem lkK_ap {o : Op2} {k : DenK} {x : D} {lv : Lv} {ρ : Dv.Env} {y : D} {S : Sto} : lkK o k x lv ρ y S = (quiet (o x y S)).bind (lkV k y lv ρ) := id rfl
@[simp] theorem ev_link {o : Op2} {x : D} {k : DenK} : kLink o b k x lv ρ S = (b lv ρ S).bind (lkK o k x lv ρ) := by
  unfold kLink
  congr 1
  funext y S1
  unfold lkK
  congr 1
  funext z S2
  cases z <;> first | rfl | (rename_i c; cases c <;> rfl)
def intR : D → Sto → R (Option Int)
  | .int i, S => .ok (some i) S
  | _, _ => .no
@[simp] theorem intR_i {i : Int} : intR (.int i) S = .ok (some i) S := id rfl
@[simp] theorem ev_po0 : poDen none lv ρ S = .ok none S := id rfl
@[simp] theorem ev_po1 : poDen (some a) lv ρ S = (a lv ρ S).bind intR := by
  unfold poDen
  dsimp only
  congr 1
  funext x S1
  cases x <;> rfl
def slK3 (x : D) (l : Option Int) : Option Int → Sto → R D := fun h S => quiet (slD x l h S)
@[simp] theorem slK3_ap {x : D} {l : Option Int} {h : Option Int} {S : Sto} : slK3 x l h S = quiet (slD x l h S) := id rfl
def slK2 (hi : Option Den) (lv : Lv) (ρ : Dv.Env) (x : D) : Option Int → Sto → R D := fun l S => (poDen hi lv ρ S).bind (slK3 x l)
@[simp] theorem slK2_ap {hi : Option Den} {lv : Lv} {ρ : Dv.Env} {x : D} {l : Option Int} {S : Sto} : slK2 hi lv ρ x l S = (poDen hi lv ρ S).bind (slK3 x l) := id rfl
def slK1 (lo : Option Den) (hi : Option Den) (lv : Lv) (ρ : Dv.Env) : D → Sto → R D := fun x S => (poDen lo lv ρ S).bind (slK2 hi lv ρ x)
@[simp] theorem slK1_ap {lo : Option Den} {hi : Option Den} {lv : Lv} {ρ : Dv.Env} {x : D} {S : Sto} : slK1 lo hi lv ρ x S = (poDen lo lv ρ S).bind (slK2 hi lv ρ x) := id rfl
@[simp] theorem ev_sl {lo hi : Option Den} : dSl a lo hi lv ρ S = (a lv ρ S).bind (slK1 lo hi lv ρ) := id rfl
/-! statements -/
variable {s1 s2 : DenS}
def seqR (s2 : DenS) (lv : Lv) : Fl → Sto → R Fl
  | .nx ρ, S => s2 lv ρ S
  | g, S => .ok g S
@[simp] theorem seqR_nx : seqR s2 lv (.nx ρ) S = s2 lv ρ S := id rfl
@[simp] theorem seqR_rt {d : D} : seqR s2 lv (.rt d) S = .ok (.rt d) S := id rfl
@[simp] theorem seqR_bk : seqR s2 lv (.bk ρ) S = .ok (.bk ρ) S := id rfl
@[simp] theorem seqR_ct : seqR s2 lv (.ct ρ) S = .ok (.ct ρ) S := id rfl
@[simp] theorem seqR_xc {c : Nat} : seqR s2 lv (.xc c ρ) S = .ok (.xc c ρ) S := id rfl
@[simp] theorem ev_seq : sSeq s1 s2 lv ρ S = (s1 lv ρ S).bind (seqR s2 lv) := by
  unfold sSeq
  congr 1
  funext f S1
  cases f <;> rfl
@[simp] theorem ev_snil : sNil lv ρ S = .ok (.nx ρ) S := id rfl
def retK : D → Sto → R Fl := fun d S => .ok (.rt d) S
@[simp] theorem retK_ap {d : D} : retK d S = .ok (.rt d) S := id rfl
@[simp] theorem ev_ret : sRet a lv ρ S = (a lv ρ S).bindS ρ retK := id rfl
@[simp] theorem ev_retN : sRetN lv ρ S = .ok (.rt .non) S := id rfl
def expK (ρ : Dv.Env) : D → Sto → R Fl := fun _ S => .ok (.nx ρ) S
@[simp] theorem expK_ap {d : D} : expK ρ d S = .ok (.nx ρ) S := id rfl
@[simp] theorem ev_expr : sExpr a lv ρ S = (a lv ρ S).bindS ρ (expK ρ) := id rfl
@[simp] theorem ev_brk : sBrk lv ρ S = .ok (.bk ρ) S := id rfl
@[simp] theorem ev_cnt : sCnt lv ρ S = .ok (.ct ρ) S := id rfl
def ifK (s1 : DenS) (s2 : DenS) (lv : Lv) (ρ : Dv.Env) : Bool → Sto → R Fl := fun x S => if x = true then s1 lv ρ S else s2 lv ρ S
@[simp] theorem ifK_ap {s1 : DenS} {s2 : DenS} {lv : Lv} {ρ : Dv.Env} {x : Bool} {S : Sto} : ifK s1 s2 lv ρ x S = if x = true then s1 lv ρ S else s2 lv ρ S := id rfl
@[simp] theorem ev_if : sIf ta s1 s2 lv ρ S = (ta lv ρ S).bindS ρ (ifK s1 s2 lv ρ) := id rfl
def envR : Option Dv.Env → Sto → R Fl
  | some ρ, S => .ok (.nx ρ) S
  | none, _ => .no
@[simp] theorem envR_s : envR (some ρ) S = .ok (.nx ρ) S := id rfl
def asK (t : Tg) (ρ : Dv.Env) : D → Sto → R Fl := fun d S => envR (tgD t d ρ) S
@[simp] theorem asK_ap {t : Tg} {ρ : Dv.Env} {d : D} {S : Sto} : asK t ρ d S = envR (tgD t d ρ) S := id rfl
@[simp] theorem ev_asg {t : Tg} : sAsg t a lv ρ S = (a lv ρ S).bindS ρ (asK t ρ) := by
  unfold sAsg
  congr 1
  funext d S1
  unfold asK
  cases tgD t d ρ <;> rfl
@[simp] theorem tg_nm {i : Nat} {d : D} : tgD (.nm i) d ρ = some (ρ.set i (some d)) := id rfl
theorem tg_tp {is : List Nat} {ds : List D} (h : ds.length = is.length) : tgD (.tp is) (.tup ds) ρ = some (setAll is ds ρ) := by
  show (if ds.length = is.length then _ else _) = _
  rw [if_pos h]
@[simp] theorem tg_tp2 {i j : Nat} {d e : D} : tgD (.tp [i, j]) (.tup [d, e]) ρ = some ((ρ.set i (some d)).set j (some e)) := id rfl
def suK4 (ρ : Dv.Env) : Unit → Sto → R Fl := fun _ S => .ok (.nx ρ) S
@[simp] theorem suK4_ap {u : Unit} : suK4 ρ u S = .ok (.nx ρ) S := id rfl
def suK3 (v : D) (x : D) (ρ : Dv.Env) : D → Sto → R Fl := fun y S => (setD x y v S).bindS ρ (suK4 ρ)
@[simp] theorem suK3_ap {v : D} {x : D} {ρ : Dv.Env} {y : D} {S : Sto} : suK3 v x ρ y S = (setD x y v S).bindS ρ (suK4 ρ) := id rfl
def suK2 (i : Den) (lv : Lv) (ρ : Dv.Env) (v : D) : D → Sto → R Fl := fun x S => (i lv ρ S).bindS ρ (suK3 v x ρ)
@[simp] theorem suK2_ap {i : Den} {lv : Lv} {ρ : Dv.Env} {v : D} {x : D} {S : Sto} : suK2 i lv ρ v x S = (i lv ρ S).bindS ρ (suK3 v x ρ) := id rfl
def suK1 (o : Den) (i : Den) (lv : Lv) (ρ : Dv.Env) : D → Sto → R Fl := fun v S => (o lv ρ S).bindS ρ (suK2 i lv ρ v)
@[simp] theorem suK1_ap {o : Den} {i : Den} {lv : Lv} {ρ : Dv.Env} {v : D} {S : Sto} : suK1 o i lv ρ v S = (o lv ρ S).bindS ρ (suK2 i lv ρ v) := id rfl
@[simp] theorem ev_sub {o i : Den} : sSub o i a lv ρ S = (a lv ρ S).bindS ρ (suK1 o i lv ρ) := id rfl
noncomputable def foK (t : Tg) (s1 : DenS) (lv : Lv) (ρ : Dv.Env) : Src → Sto → R Fl := fun src S => forGo src.chk t (s1 lv) src.items ρ S
@[simp] theorem foK_ap {t : Tg} {src : Src} : foK t s1 lv ρ src S = forGo src.chk t (s1 lv) src.items ρ S := id rfl
@[simp] theorem ev_for {di : DenI} {t : Tg} : sFor di t s1 lv ρ S = (di lv ρ S).bindS ρ (foK t s1 lv ρ) := id rfl
def rngR (a : List D) (S : Sto) : R Src := match a with
  | [.int j] => if -4611686018427387904 ≤ j ∧ j < 4611686018427387904 then .ok (.rng 0 j.toNat) S else .no
  | [.int i, .int j] => if -4611686018427387904 ≤ i ∧ i < 4611686018427387904 ∧ -4611686018427387904 ≤ j ∧ j < 4611686018427387904 then .ok (.rng i (j - i).toNat) S else .no
  | _ => .no
@[simp] theorem rngR_1 {j : Int} : rngR [.int j] S = if -4611686018427387904 ≤ j ∧ j < 4611686018427387904 then .ok (.rng 0 j.toNat) S else .no := id rfl
@[simp] theorem rngR_2 {i j : Int} : rngR [.int i, .int j] S = if -4611686018427387904 ≤ i ∧ i < 4611686018427387904 ∧ -4611686018427387904 ≤ j ∧ j < 4611686018427387904 then .ok (.rng i (j - i).toNat) S else .no := id rfl
@[simp] theorem ev_rng1 {x : Den} : iRange1 (dCons x dNil) lv ρ S = (dCons x dNil lv ρ S).bind rngR := by
  unfold iRange1
  cases e : x lv ρ S with
  | ok d S1 =>
    have e2 : dCons x dNil lv ρ S = .ok [d] S1 := by show (x lv ρ S).bind _ = _; rw [e]; rfl
    rw [e2]
    cases d <;> rfl
  | ex c S1 =>
    have e2 : dCons x dNil lv ρ S = .ex c S1 := by show (x lv ρ S).bind _ = _; rw [e]; rfl
    rw [e2]; rfl
  | no =>
    have e2 : dCons x dNil lv ρ S = .no := by show (x lv ρ S).bind _ = _; rw [e]; rfl
    rw [e2]; rfl
@[simp] theorem ev_rng2 {x y : Den} : iRange2 (dCons x (dCons y dNil)) lv ρ S = (dCons x (dCons y dNil) lv ρ S).bind rngR := by
  unfold iRange2
  cases e : x lv ρ S with
  | ok d S1 =>
    cases e3 : y lv ρ S1 with
    | ok d2 S2 =>
      have e2 : dCons x (dCons y dNil) lv ρ S = .ok [d, d2] S2 := by
        show (x lv ρ S).bind _ = _
        rw [e]
        show ((y lv ρ S1).bind _).bind _ = _
        rw [e3]; rfl
      rw [e2]
      cases d <;> cases d2 <;> rfl
    | ex c S2 =>
      have e2 : dCons x (dCons y dNil) lv ρ S = .ex c S2 := by
        show (x lv ρ S).bind _ = _
        rw [e]
        show ((y lv ρ S1).bind _).bind _ = _
        rw [e3]; rfl
      rw [e2]; rfl
    | no =>
      have e2 : dCons x (dCons y dNil) lv ρ S = .no := by
        show (x lv ρ S).bind _ = _
        rw [e]
        show ((y lv ρ S1).bind _).bind _ = _
        rw [e3]; rfl
      rw [e2]; rfl
  | ex c S1 =>
    have e2 : dCons x (dCons y dNil) lv ρ S = .ex c S1 := by show (x lv ρ S).bind _ = _; rw [e]; rfl
    rw [e2]; rfl
  | no =>
    have e2 : dCons x (dCons y dNil) lv ρ S = .no := by show (x lv ρ S).bind _ = _; rw [e]; rfl
    rw [e2]; rfl
def valR (d : D) (S : Sto) : R Src := match d with
  | .tup xs => .ok (.tup xs) S
  | .ref i => match S[i]? with
    | some (.lst w xs) => .ok (.lst i w xs) S
    | _ => .no
  | _ => .no
@[simp] theorem valR_t {xs : List D} : valR (.tup xs) S = .ok (.tup xs) S := id rfl
@[simp] theorem ev_val : iVal a lv ρ S = (a lv ρ S).bind valR := by
  unfold iVal
  rfl
noncomputable def lcK (t : Tg) (ta : DenT) (a : Den) (vs : List Nat) (lv : Lv) (ρ : Dv.Env) : Src → Sto → R D := fun src S => lcGo S.length src.chk t (ta lv) (a lv) (wipeE ρ vs) src.items (S ++ [.lst true []])
@[simp] theorem lcK_ap {t : Tg} {vs : List Nat} {src : Src} : lcK t ta a vs lv ρ src S = lcGo S.length src.chk t (ta lv) (a lv) (wipeE ρ vs) src.items (S ++ [.lst true []]) := id rfl
@[simp] theorem ev_lc {di : DenI} {t : Tg} {vs : List Nat} : dLc di t ta a vs lv ρ S = (di lv ρ S).bind (lcK t ta a vs lv ρ) := id rfl
noncomputable def abK (bb : Bool) (t : Tg) (ta : DenT) (a : Den) (vs : List Nat) (lv : Lv) (ρ : Dv.Env) : Src → Sto → R D := fun src S => abGo bb src.chk t (ta lv.dn) (a lv.dn) (wipeE ρ vs) src.items S
@[simp] theorem abK_ap {bb : Bool} {t : Tg} {vs : List Nat} {src : Src} : abK bb t ta a vs lv ρ src S = abGo bb src.chk t (ta lv.dn) (a lv.dn) (wipeE ρ vs) src.items S := id rfl
@[simp] theorem ev_ab {bb : Bool} {di : DenI} {t : Tg} {vs : List Nat} : dAb bb di t ta a vs lv ρ S = (di lv ρ S).bind (abK bb t ta a vs lv ρ) := id rfl
@[simp] theorem ev_dk0 : dDk0 lv ρ S = .ok (.ref S.length) (S ++ [.dk []]) := id rfl
def dkO (k : L2.Key) (y : D) (i : Nat) : Option O → Sto → R D
  | some (.dk []), S => .ok (.ref i) (S.set i (.dk [(k, y)]))
  | _, _ => .no
@[simp] theorem dkO_e {k : L2.Key} {y : D} {i : Nat} : dkO k y i (some (.dk [])) S = .ok (.ref i) (S.set i (.dk [(k, y)])) := id rfl
def dkK (k : L2.Key) (i : Nat) : D → Sto → R D := fun y S => dkO k y i S[i]? S
@[simp] theorem dkK_ap {k : L2.Key} {i : Nat} {y : D} {S : Sto} : dkK k i y S = dkO k y i S[i]? S := id rfl
@[simp] theorem ev_dk1 {k : L2.Key} : dDk1 k a lv ρ S = (a lv ρ (S ++ [.dk []])).bind (dkK k S.length) := by
  unfold dDk1
  congr 1
  funext y S1
  unfold dkK dkO
  cases S1[S.length]? with
  | none => rfl
  | some o =>
    cases o with
    | lst w xs => rfl
    | dk kvs => cases kvs <;> rfl
/-! ### operations -/
@[simp] theorem add_i {i j : Int} : addD (.int i) (.int j) S = .ok (.int (i + j)) S := id rfl
@[simp] theorem add_t {i j : List D} : addD (.tup i) (.tup j) S = if i.length + j.length ≤ mx then .ok (.tup (i ++ j)) S else .no := id rfl
@[simp] theorem sub_i {i j : Int} : subD (.int i) (.int j) S = .ok (.int (i - j)) S := id rfl
@[simp] theorem mul_i {i j : Int} : mulD (.int i) (.int j) S = if (-18446744073709551616 < i ∧ i < 18446744073709551616) ∨ (-18446744073709551616 < j ∧ j < 18446744073709551616) then .ok (.int (i * j)) S else .no := id rfl
@[simp] theorem fdiv_i {i j : Int} : fdivD (.int i) (.int j) S = if 0 < j ∧ j < 1073741824 then .ok (.int (i / j)) S else .no := id rfl
@[simp] theorem mod_i {i j : Int} : modD (.int i) (.int j) S = if 0 < j then .ok (.int (i % j)) S else .no := id rfl
@[simp] theorem pow_i {i j : Int} : powD (.int i) (.int j) S = if 0 ≤ j ∧ j ≤ 1000000 ∧ i.natAbs < 18446744073709551616 then .ok (.int (i ^ j.toNat)) S else .no := id rfl
@[simp] theorem neg_i {i : Int} : negD (.int i) S = .ok (.int (-i)) S := id rfl
@[simp] theorem not_b {c : Bool} : notD (.bl c) S = .ok (.bl (!c)) S := id rfl
@[simp] theorem lt_i {i j : Int} : ltD (.int i) (.int j) S = .ok (.bl (decide (i < j))) S := id rfl
@[simp] theorem le_i {i j : Int} : leD (.int i) (.int j) S = .ok (.bl (decide (i ≤ j))) S := id rfl
@[simp] theorem gt_i {i j : Int} : gtD (.int i) (.int j) S = .ok (.bl (decide (j < i))) S := id rfl
@[simp] theorem ge_i {i j : Int} : geD (.int i) (.int j) S = .ok (.bl (decide (j ≤ i))) S := id rfl
@[simp] theorem eq_i {i j : Int} : eqD (.int i) (.int j) S = .ok (.bl (decide (i = j))) S := id rfl
@[simp] theorem ne_i {i j : Int} : neD (.int i) (.int j) S = .ok (.bl (!decide (i = j))) S := id rfl
@[simp] theorem ne_b {i j : Bool} : neD (.bl i) (.bl j) S = .ok (.bl (!decide (i = j))) S := id rfl
@[simp] theorem lt_p {i j k l : Int} : ltD (.tup [.int i, .int j]) (.tup [.int k, .int l]) S = .ok (.bl (HT.lexLt [i, j] [k, l])) S := id rfl
@[simp] theorem ix_t {xs : List D} {k : Int} : ixD (.tup xs) (.int k) S = optR (L2.atI xs k) S := by
  show (match L2.atI xs k with | some x => R.ok x S | none => .no) = _
  cases L2.atI xs k <;> rfl
theorem ix_r {i : Nat} {w : Bool} {xs : List D} {k : Int} (h : S[i]? = some (.lst w xs)) : ixD (.ref i) (.int k) S = optR (L2.atI xs k) S := by
  unfold ixD itemsD
  simp only [h]
  cases L2.atI xs k <;> rfl
@[simp] theorem at0 {x : D} {xs : List D} : L2.atI (x :: xs) 0 = some x := L2.atI_nat (j := 0) rfl
@[simp] theorem at1 {x y : D} {xs : List D} : L2.atI (x :: y :: xs) 1 = some y := L2.atI_nat (j := 1) rfl
/-- an index in range -/
theorem at_in {xs : List D} {k : Int} (h0 : 0 ≤ k) (h1 : k < xs.length) : L2.atI xs k = some (xs[k.toNat]'(by omega)) := by
  have e : ((k.toNat : Nat) : Int) = k := by omega
  have q := L2.atI_nat (xs := xs) (j := k.toNat) (List.getElem?_eq_getElem (by omega))
  rw [e] at q
  exact q
@[simp] theorem len_t {xs : List D} : lenD [.tup xs] S = .ok (.int xs.length) S := id rfl
theorem len_r {i : Nat} {w : Bool} {xs : List D} (h : S[i]? = some (.lst w xs)) : lenD [.ref i] S = .ok (.int xs.length) S := by
  unfold lenD itemsD
  simp only [h]
/-! things of the store: what stands there is looked up first -/
def ixO : Option O → Int → Sto → R D
  | some (.lst _ xs), k, S => optR (L2.atI xs k) S
  | _, _, _ => .no
@[simp] theorem ixO_l {w : Bool} {xs : List D} {k : Int} : ixO (some (.lst w xs)) k S = optR (L2.atI xs k) S := id rfl
@[simp] theorem ix_ref {i : Nat} {k : Int} : ixD (.ref i) (.int k) S = ixO S[i]? k S := by
  unfold ixD itemsD ixO
  dsimp only
  cases S[i]? with
  | none => rfl
  | some o =>
    cases o with
    | lst w xs => dsimp only; cases L2.atI xs k <;> rfl
    | dk kvs => rfl
def lenO : Option O → Sto → R D
  | some (.lst _ xs), S => .ok (.int xs.length) S
  | _, _ => .no
@[simp] theorem lenO_l {w : Bool} {xs : List D} : lenO (some (.lst w xs)) S = .ok (.int xs.length) S := id rfl
@[simp] theorem len_ref {i : Nat} : lenD [.ref i] S = lenO S[i]? S := by
  unfold lenD itemsD lenO
  dsimp only
  cases S[i]? with
  | none => rfl
  | some o => cases o <;> rfl
def valO (i : Nat) : Option O → Sto → R Src
  | some (.lst w xs), S => .ok (.lst i w xs) S
  | _, _ => .no
@[simp] theorem valO_l {i : Nat} {w : Bool} {xs : List D} : valO i (some (.lst w xs)) S = .ok (.lst i w xs) S := id rfl
@[simp] theorem val_ref {i : Nat} : valR (.ref i) S = valO i S[i]? S := by
  unfold valR valO
  dsimp only
  cases S[i]? with
  | none => rfl
  | some o => cases o <;> rfl
def setO (i : Nat) : Option O → Int → D → Sto → R Unit
  | some (.lst true xs), k, v, S => match L2.ixN xs.length k with
    | some j => .ok () (S.set i (.lst true (xs.set j v)))
    | none => .no
  | _, _, _, _ => .no
@[simp] theorem set_ref {i : Nat} {k : Int} {v : D} : setD (.ref i) (.int k) v S = setO i S[i]? k v S := by
  unfold setD setO
  dsimp only
  cases S[i]? with
  | none => rfl
  | some o =>
    cases o with
    | lst w xs => cases w <;> rfl
    | dk kvs => rfl
@[simp] theorem setO_0 {i : Nat} {x v : D} {xs : List D} : setO i (some (.lst true (x :: xs))) 0 v S = .ok () (S.set i (.lst true (v :: xs))) := by
  unfold setO
  have e : L2.ixN (x :: xs).length 0 = some 0 := by
    unfold L2.ixN
    rw [if_pos (by omega), if_pos (by rw [List.length_cons]; omega)]
    rfl
  simp only [e]
  rfl
@[simp] theorem setO_1 {i : Nat} {x y v : D} {xs : List D} : setO i (some (.lst true (x :: y :: xs))) 1 v S = .ok () (S.set i (.lst true (x :: v :: xs))) := by
  unfold setO
  have e : L2.ixN (x :: y :: xs).length 1 = some 1 := by
    unfold L2.ixN
    rw [if_pos (by omega), if_pos (by rw [List.length_cons, List.length_cons]; omega)]
    rfl
  simp only [e]
  rfl
def isLo : Option O → Bool
  | some (.lst _ _) => true
  | _ => false
@[simp] theorem isLo_l {w : Bool} {xs : List D} : isLo (some (.lst w xs)) = true := id rfl
@[simp] theorem isL_ref {i : Nat} : isL (.ref i) S = isLo S[i]? := by
  unfold isL isLo
  cases h : S[i]? with
  | none => simp [h]
  | some o => cases o <;> simp [h]
def appO (i : Nat) (y : D) : Option O → Sto → R D
  | some (.lst true xs), S => if xs.length < mx then .ok .non (S.set i (.lst true (xs ++ [y]))) else .no
  | _, _ => .no
@[simp] theorem appO_l {i : Nat} {y : D} {xs : List D} : appO i y (some (.lst true xs)) S = if xs.length < mx then .ok .non (S.set i (.lst true (xs ++ [y]))) else .no := id rfl
@[simp] theorem app_ref {i : Nat} {y : D} : appendD (.ref i) [y] S = appO i y S[i]? S := by
  unfold appendD appO
  dsimp only
  cases S[i]? with
  | none => rfl
  | some o =>
    cases o with
    | lst w xs => cases w <;> rfl
    | dk kvs => rfl
def popO (i : Nat) (k : Int) : Option O → Sto → R D
  | some (.lst true xs), S => if 0 ≤ k ∧ k < 1000000 then (match xs[k.toNat]? with
    | some y => .ok y (S.set i (.lst true (xs.eraseIdx k.toNat)))
    | none => .no) else .no
  | _, _ => .no
@[simp] theorem pop_ref {i : Nat} {k : Int} : popAtD (.ref i) [.int k] S = popO i k S[i]? S := by
  unfold popAtD popO
  dsimp only
  cases S[i]? with
  | none => rfl
  | some o =>
    cases o with
    | lst w xs => cases w <;> rfl
    | dk kvs => rfl
theorem popO_in {i : Nat} {k : Int} {xs : List D} (h0 : 0 ≤ k) (h1 : k < xs.length) (h2 : xs.length ≤ 1000000) : popO i k (some (.lst true xs)) S = .ok (xs[k.toNat]'(by omega)) (S.set i (.lst true (xs.eraseIdx k.toNat))) := by
  have e : xs[k.toNat]? = some (xs[k.toNat]'(by omega)) := List.getElem?_eq_getElem (by omega)
  unfold popO
  simp only [e]
  rw [if_pos ⟨h0, by omega⟩]
def extO (i : Nat) : Option O → Option O → Sto → R D
  | some (.lst true xs), some (.lst true ys), S => if xs.length + ys.length ≤ mx then .ok .non (S.set i (.lst true (xs ++ ys))) else .no
  | _, _, _ => .no
@[simp] theorem extO_l {i : Nat} {xs ys : List D} : extO i (some (.lst true xs)) (some (.lst true ys)) S = if xs.length + ys.length ≤ mx then .ok .non (S.set i (.lst true (xs ++ ys))) else .no := id rfl
@[simp] theorem ext_ref {i j : Nat} : extendD (.ref i) [.ref j] S = extO i S[i]? S[j]? S := by
  unfold extendD extO
  dsimp only
  cases S[i]? with
  | none => rfl
  | some o =>
    cases o with
    | lst w xs =>
      cases w with
      | false => rfl
      | true =>
        cases S[j]? with
        | none => rfl
        | some o2 =>
          cases o2 with
          | lst w2 ys => cases w2 <;> rfl
          | dk kvs => rfl
    | dk kvs => rfl
def catO : Option O → Option O → Sto → R D
  | some (.lst true xs), some (.lst true ys), S => if xs.length + ys.length ≤ mx then .ok (.ref S.length) (S ++ [.lst true (xs ++ ys)]) else .no
  | _, _, _ => .no
@[simp] theorem catO_l {xs ys : List D} : catO (some (.lst true xs)) (some (.lst true ys)) S = if xs.length + ys.length ≤ mx then .ok (.ref S.length) (S ++ [.lst true (xs ++ ys)]) else .no := id rfl
@[simp] theorem cat_ref {i j : Nat} : addD (.ref i) (.ref j) S = catO S[i]? S[j]? S := by
  unfold addD catO
  dsimp only
  cases S[i]? with
  | none => rfl
  | some o =>
    cases o with
    | lst w xs =>
      cases w with
      | false => rfl
      | true =>
        cases S[j]? with
        | none => rfl
        | some o2 =>
          cases o2 with
          | lst w2 ys => cases w2 <;> rfl
          | dk kvs => rfl
    | dk kvs => rfl
def tupO : Option O → Sto → R D
  | some (.lst _ xs), S => if xs.length ≤ mx then .ok (.tup xs) S else .no
  | _, _ => .no
@[simp] theorem tupO_l {w : Bool} {xs : List D} : tupO (some (.lst w xs)) S = if xs.length ≤ mx then .ok (.tup xs) S else .no := id rfl
@[simp] theorem tuple_ref {i : Nat} : tupleD [.ref i] S = tupO S[i]? S := by
  unfold tupleD itemsD tupO
  dsimp only
  cases S[i]? with
  | none => rfl
  | some o => cases o <;> rfl
@[simp] theorem list_tup {xs : List D} : listD [.tup xs] S = if xs.length ≤ mx then .ok (.ref S.length) (S ++ [.lst true xs]) else .no := id rfl
def srtO : Option O → Sto → R D
  | some (.lst _ xs), S => if xs.all isPr = true ∧ xs.length ≤ mx then .ok (.ref S.length) (S ++ [.lst true (isort ltK xs)]) else .no
  | _, _ => .no
@[simp] theorem srtO_l {w : Bool} {xs : List D} : srtO (some (.lst w xs)) S = if xs.all isPr = true ∧ xs.length ≤ mx then .ok (.ref S.length) (S ++ [.lst true (isort ltK xs)]) else .no := id rfl
@[simp] theorem sorted_ref {i : Nat} : sortedD [.ref i] S = srtO S[i]? S := by
  unfold sortedD itemsD srtO
  dsimp only
  cases S[i]? with
  | none => rfl
  | some o =>
    cases o with
    | lst w xs =>
      show (if xs.all isPr = true ∧ xs.length ≤ mx ∧ isRf (D.ref i) = true then _ else _) = if xs.all isPr = true ∧ xs.length ≤ mx then _ else _
      by_cases h : xs.all isPr = true ∧ xs.length ≤ mx
      · rw [if_pos h, if_pos (show _ ∧ _ ∧ isRf (D.ref i) = true from ⟨h.1, h.2, rfl⟩)]
      · rw [if_neg h, if_neg (fun q : xs.all isPr = true ∧ xs.length ≤ mx ∧ isRf (D.ref i) = true => h ⟨q.1, q.2.1⟩)]
    | dk kvs => rfl
def cutO (lo hi : Option Int) : Option O → Sto → R D
  | some (.lst _ xs), S => if xs.length ≤ mx then .ok (.ref S.length) (S ++ [.lst true (cutD xs lo hi)]) else .no
  | _, _ => .no
@[simp] theorem cutO_l {w : Bool} {lo hi : Option Int} {xs : List D} : cutO lo hi (some (.lst w xs)) S = if xs.length ≤ mx then .ok (.ref S.length) (S ++ [.lst true (cutD xs lo hi)]) else .no := id rfl
@[simp] theorem sl_ref {i : Nat} {lo hi : Option Int} : slD (.ref i) lo hi S = cutO lo hi S[i]? S := by
  unfold slD itemsD cutO
  dsimp only
  cases S[i]? with
  | none => rfl
  | some o => cases o <;> rfl
@[simp] theorem sl_tup {xs : List D} {lo hi : Option Int} : slD (.tup xs) lo hi S = if xs.length ≤ mx then .ok (.tup (cutD xs lo hi)) S else .no := id rfl
@[simp] theorem rev_tup {xs : List D} : revD (.tup xs) S = .ok (.tup xs.reverse) S := id rfl
/-- one of the items -/
theorem opt_in {xs : List D} {k : Int} {Q : D → Sto → Prop} {W : Nat → Sto → Prop} (h0 : 0 ≤ k) (h1 : k < xs.length) (h : ∀ x ∈ xs, Q x S) : (optR (L2.atI xs k) S).wp Q W := by
  rw [at_in h0 h1]
  exact h _ (List.getElem_mem _)
@[simp] theorem abs_i {i : Int} : absD [.int i] S = .ok (.int (if i < 0 then -i else i)) S := id rfl
@[simp] theorem min_i {i j : Int} : minD [.int i, .int j] S = .ok (.int (if j < i then j else i)) S := id rfl
@[simp] theorem max_i {i j : Int} : maxD [.int i, .int j] S = .ok (.int (if j > i then j else i)) S := id rfl
@[simp] theorem tru_b {c : Bool} : truD (.bl c) S = some c := id rfl
@[simp] theorem start2 {n : Nat} {ds : List D} : startE n ds = ds.map some ++ List.replicate (n - ds.length) none := id rfl
end
end Dv

namespace Dv
open PySem
noncomputable def wholeF : DenS := (sRet (dAndV (dIsi .int (dVar 0)) (dUn notD (dIsi .bl (dVar 0)))))
noncomputable def placeF (iW : Nat) : DenS := (sRet (dAndV (dCallF iW 1 (dCons (dVar 1) dNil)) (dChain (dC (.int 0)) (kLink leD (dVar 1) (kLast ltD (dVar 0))))))
noncomputable def pairF (iP : Nat) : DenS := (sSeq (sIf (dOrT (dNotT (dTru (dIsi .tup (dVar 1)))) (dBl (dOp neD (dCl lenD (dCons (dVar 1) dNil)) (dC (.int 2))))) (sRet (dC (.bl false))) sNil)
    (sRet (dAndV (dCallF iP 2 (dCons (dVar 0) (dCons (dOp ixD (dVar 1) (dC (.int 0))) dNil))) (dAndV (dCallF iP 2 (dCons (dVar 0) (dCons (dOp ixD (dVar 1) (dC (.int 1))) dNil))) (dOp neD (dOp ixD (dVar 1) (dC (.int 0))) (dOp ixD (dVar 1) (dC (.int 1))))))))
section
variable {bs : Bodies} {iW iP iR iT m : Nat} {S : Sto}
/-! rising -/
def ltP (p q : Int × Int) : Bool := HT.lexLt [p.1, p.2] [q.1, q.2]
theorem ltP_iff {p q : Int × Int} : ltP p q = true ↔ p.1 < q.1 ∨ p.1 = q.1 ∧ p.2 < q.2 := by
  unfold ltP
  rw [HT.lexLt_cons, HT.lexLt_cons, HT.lexLt_nil_nil]
  by_cases h : p.1 = q.1
  · rw [if_pos h]
    by_cases h2 : p.2 = q.2
    · rw [if_pos h2]
      simp
      omega
    · rw [if_neg h2]
      simp
      omega
  · rw [if_neg h]
    simp
    omega
/-! frames -/
def isTie (n : Int) : D → Bool
  | .tup [.int i, .int j] => decide (0 ≤ i ∧ i < j ∧ j < n)
  | _ => false
/-! the pen -/
/-- a pen stands at r -/
def Pen (S : Sto) (r : Nat) : Prop := ∃ a b : Int, 0 ≤ a ∧ S[r]? = some (.lst true [.int a, .int b])
/-- what stood there stands there still, but at r; the pen at r is one still -/
structure Ev (r : Nat) (S S' : Sto) : Prop where
  kp : ∀ (j : Nat) o, j ≠ r → S[j]? = some o → S'[j]? = some o
  pn : Pen S' r
  ln : S.length ≤ S'.length
theorem Ev.refl {r : Nat} {S : Sto} (h : Pen S r) : Ev r S S := ⟨fun _ _ _ e => e, h, Nat.le_refl _⟩
theorem Ev.trans {r : Nat} {S1 S2 S3 : Sto} (a : Ev r S1 S2) (b : Ev r S2 S3) : Ev r S1 S3 := ⟨fun j o n e => b.kp j o n (a.kp j o n e), b.pn, Nat.le_trans a.ln b.ln⟩
theorem Pen.lt {r : Nat} {S : Sto} (h : Pen S r) : r < S.length := by
  obtain ⟨a, b, _, e⟩ := h
  exact (List.getElem?_eq_some_iff.mp e).1
theorem Ev.app {r : Nat} {S : Sto} (h : Pen S r) (T : Sto) : Ev r S (S ++ T) := by
  have kp : ∀ (j : Nat) o, S[j]? = some o → (S ++ T)[j]? = some o := fun j o e => by rw [List.getElem?_append_left (List.getElem?_eq_some_iff.mp e).1]; exact e
  obtain ⟨a, b, h0, e⟩ := id h
  exact ⟨fun j o _ e => kp j o e, ⟨a, b, h0, kp r _ e⟩, by simp⟩
/-- something new is written: it stood not there ahead -/
theorem Ev.put {r l : Nat} {S S' : Sto} {o : O} (h : Ev r S S') (hr : r < S.length) (hl : S.length ≤ l) : Ev r S (S'.set l o) := by
  refine ⟨fun j u n e => ?_, ?_, by rw [List.length_set]; exact h.ln⟩
  · have hj := (List.getElem?_eq_some_iff.mp e).1
    rw [List.getElem?_set_ne (by omega)]
    exact h.kp j u n e
  · obtain ⟨a, b, h0, e⟩ := h.pn
    exact ⟨a, b, h0, by rw [List.getElem?_set_ne (by omega)]; exact e⟩
end
end Dv

namespace Dv
open PySem
theorem mx_small {n : Nat} (h : n < 1000) : n < mx := Nat.lt_trans h (by decide)
def AllPr (ts : List D) : Prop := ∀ x ∈ ts, isPr x = true
theorem AllPr.app {xs ys : List D} (a : AllPr xs) (b : AllPr ys) : AllPr (xs ++ ys) := fun y hy => by
  rcases List.mem_append.mp hy with q | q
  · exact a y q
  · exact b y q
theorem AllPr.nil : AllPr [] := fun _ h => nomatch h
theorem AllPr.one {i j : Int} : AllPr [.tup [.int i, .int j]] := fun y hy => by rw [List.mem_singleton.mp hy]; rfl
theorem rng_mem {lo : Int} {n : Nat} {x : D} (h : x ∈ (Src.rng lo n).items) : ∃ k : Nat, k < n ∧ x = .int (lo + (k : Int)) := by
  unfold Src.items at h
  obtain ⟨k, hk, rfl⟩ := List.mem_map.mp h
  exact ⟨k, List.mem_range.mp hk, rfl⟩
theorem rng_len {lo : Int} {n : Nat} : (Src.rng lo n).items.length = n := by
  unfold Src.items
  rw [List.length_map, List.length_range]
section
variable {bs : Bodies} {iW iP iR iT m : Nat} {S : Sto}
end
end Dv

namespace Dv
open PySem
section
variable {bs : Bodies} {iT m : Nat} {S T : Sto}
theorem at_a0 {S : Sto} {o : O} {T : Sto} : (S ++ o :: T)[S.length]? = some o := by simp
@[simp] theorem at_app {S T : Sto} {k : Nat} : (S ++ T)[S.length + k]? = T[k]? := by
  rw [List.getElem?_append_right (by omega), show S.length + k - S.length = k from by omega]
theorem Ev.app' {r : Nat} {S S' : Sto} (h : Ev r S S') (T : Sto) : Ev r S (S' ++ T) := h.trans (Ev.app h.pn T)
theorem Pen.app {r : Nat} {S : Sto} (h : Pen S r) (T : Sto) : Pen (S ++ T) r := (Ev.app h T).pn
end
end Dv

namespace Dv
open PySem
/-! ### sorting of pairs -/
theorem ltK_eq {x y : D} : ltK x y = ltP (keyD x) (keyD y) := by
  unfold ltK ltP SrtO.lexB
  rw [HT.lexLt_cons, HT.lexLt_cons, HT.lexLt_nil_nil]
  by_cases h : (keyD x).1 = (keyD y).1
  · rw [if_pos h, if_pos h]
    by_cases h2 : (keyD x).2 = (keyD y).2
    · rw [if_pos h2, decide_eq_false (by omega)]
    · rw [if_neg h2]
  · rw [if_neg h, if_neg h]
theorem ltP_tri {p q : Int × Int} (h : ltP p q = false) (h2 : p ≠ q) : ltP q p = true := by
  rw [ltP_iff]
  have a : ¬ (p.1 < q.1 ∨ p.1 = q.1 ∧ p.2 < q.2) := fun z => by rw [ltP_iff.mpr z] at h; cases h
  have b : ¬ (p.1 = q.1 ∧ p.2 = q.2) := fun z => h2 (Prod.ext z.1 z.2)
  omega
theorem ltP_asym {p q : Int × Int} (h : ltP p q = true) : ltP q p = false := by
  cases e : ltP q p with
  | false => rfl
  | true =>
    have a := ltP_iff.mp h
    have b := ltP_iff.mp e
    omega
theorem ltP_irr {p : Int × Int} : ltP p p = false := by
  cases e : ltP p p with
  | false => rfl
  | true => have a := ltP_iff.mp e; omega
theorem swoK : SrtO.Swo ltK := by
  refine ⟨fun x y h => ?_, fun x y z h1 h2 => ?_⟩
  · rw [ltK_eq] at h ⊢
    exact ltP_asym h
  · rw [ltK_eq] at h1 h2 ⊢
    cases e : ltP (keyD z) (keyD x) with
    | false => rfl
    | true =>
      have a : ¬ _ := fun q => by rw [ltP_iff.mpr q] at h1; cases h1
      have b : ¬ _ := fun q => by rw [ltP_iff.mpr q] at h2; cases h2
      have c := ltP_iff.mp e
      omega
/-- rising strictly -/
def Str_ (l : List D) : Prop := l.Pairwise fun x y => ltP (keyD x) (keyD y) = true
theorem pr_inj {x y : D} (hx : isPr x = true) (hy : isPr y = true) (h : keyD x = keyD y) : x = y := by
  match x, hx, y, hy with
  | .tup [.int a, .int b], _, .tup [.int c, .int d], _ =>
    have h : (a, b) = (c, d) := h
    cases h
    rfl
theorem isort_str {l : List D} (hp : AllPr l) (hn : l.Nodup) : Str_ (isort ltK l) := by
  have s := isort_srtd swoK l
  have hn2 : (isort ltK l).Nodup := (isort_perm l).nodup_iff.mpr hn
  have hp2 : AllPr (isort ltK l) := fun y hy => hp y ((isort_perm l).mem_iff.mp hy)
  generalize isort ltK l = m at s hn2 hp2
  unfold Str_
  induction m with
  | nil => exact List.Pairwise.nil
  | cons x r ih =>
    have s' := List.pairwise_cons.mp s
    have n' := List.nodup_cons.mp hn2
    refine List.pairwise_cons.mpr ⟨fun y hy => ?_, ih s'.2 n'.2 fun z hz => hp2 z (List.mem_cons_of_mem _ hz)⟩
    have q := s'.1 y hy
    rw [ltK_eq] at q
    refine ltP_tri q fun e => n'.1 ?_
    rw [← pr_inj (hp2 y (List.mem_cons_of_mem _ hy)) (hp2 x List.mem_cons_self) e]
    exact hy
theorem str_nodup {l : List D} (h : Str_ l) : l.Nodup := h.imp fun {a b} q e => by rw [e, ltP_irr] at q; cases q
end Dv

namespace Dv
open PySem
def iD (k : Nat) : D := .int (k : Int)
theorem rng_items {N : Nat} : (Src.rng 0 N).items = (List.range' 0 N).map iD := by
  show (List.range N).map (fun k : Nat => D.int (0 + (k : Int))) = _
  rw [List.range_eq_range']
  refine List.map_congr_left fun k _ => ?_
  show D.int (0 + (k : Int)) = D.int (k : Int)
  rw [Int.zero_add]
theorem rng_cons {c n : Nat} {x : D} {xs : List D} (h : x :: xs = (List.range' c n).map iD) : ∃ m, n = m + 1 ∧ x = iD c ∧ xs = (List.range' (c + 1) m).map iD := by
  cases n with
  | zero => simp at h
  | succ m =>
    rw [List.range'_succ, List.map_cons] at h
    cases h
    exact ⟨m, rfl, rfl, rfl⟩
theorem rng_nil {c n : Nat} (h : ([] : List D) = (List.range' c n).map iD) : n = 0 := by
  cases n with
  | zero => rfl
  | succ m => rw [List.range'_succ, List.map_cons] at h; cases h
theorem er_perm {α : Type} : ∀ {l : List α} {i : Nat} (h : i < l.length), (l[i] :: l.eraseIdx i).Perm l
  | x :: r, 0, _ => List.Perm.refl _
  | x :: r, i + 1, h => by
    have h' : i < r.length := by simpa using h
    show (r[i] :: x :: r.eraseIdx i).Perm (x :: r)
    exact (List.Perm.swap x _ _).trans ((er_perm h').cons x)
theorem tie_isPr {n : Int} {y : D} (h : isTie n y = true) : isPr y = true := by
  match y, h with
  | .tup [.int i, .int j], _ => rfl
section
variable {bs : Bodies} {iT m : Nat} {S : Sto}
end
end Dv

namespace Dv
open PySem
section
variable {lv : Lv} {ρ : Dv.Env} {S : Sto} {a b : Den} {ra : DenA} {ta tb : DenT}
/-! ### more of the operations -/
def nDk : Option O → Bool
  | some (.dk _) => false
  | _ => true
@[simp] theorem nDk_l {w : Bool} {xs : List D} : nDk (some (.lst w xs)) = true := id rfl
@[simp] theorem kd_lr {i : Nat} : isK (kdOf (.ref i) S) .lst = nDk S[i]? := by
  unfold kdOf nDk
  cases h : S[i]? with
  | none => simp [h, isK]
  | some o => cases o <;> simp [h, isK]
@[simp] theorem kd_lt {xs : List D} : isK (kdOf (.tup xs) S) .lst = false := id rfl
def i2K (T U : Ty) : D → Sto → R D := fun d S => .ok (.bl (isK (kdOf d S) T || isK (kdOf d S) U)) S
@[simp] theorem i2K_ap {T U : Ty} {d : D} : i2K T U d S = .ok (.bl (isK (kdOf d S) T || isK (kdOf d S) U)) S := id rfl
@[simp] theorem ev_isi2 {T U : Ty} : dIsi2 T U a lv ρ S = (a lv ρ S).bind (i2K T U) := id rfl
@[simp] theorem min1_i {i j : Int} : min1D [.tup [.int i, .int j]] S = .ok (.int (if j < i then j else i)) S := id rfl
@[simp] theorem max1_i {i j : Int} : max1D [.tup [.int i, .int j]] S = .ok (.int (if i < j then j else i)) S := id rfl
@[simp] theorem ev_no : sNo lv ρ S = .no := id rfl
@[simp] theorem isn_b {i j : Bool} : isnD (.bl i) (.bl j) S = .ok (.bl (!decide (i = j))) S := id rfl
def insO (i : Nat) (k : Int) (y : D) : Option O → Sto → R D
  | some (.lst true xs), S => if 0 ≤ k ∧ k < 1000000 ∧ xs.length < mx then .ok .non (S.set i (.lst true (xs.take k.toNat ++ [y] ++ xs.drop k.toNat))) else .no
  | _, _ => .no
@[simp] theorem insO_l {i : Nat} {k : Int} {y : D} {xs : List D} : insO i k y (some (.lst true xs)) S = if 0 ≤ k ∧ k < 1000000 ∧ xs.length < mx then .ok .non (S.set i (.lst true (xs.take k.toNat ++ [y] ++ xs.drop k.toNat))) else .no := id rfl
@[simp] theorem ins_ref {i : Nat} {k : Int} {y : D} : insertD (.ref i) [.int k, y] S = insO i k y S[i]? S := by
  unfold insertD insO
  dsimp only
  cases S[i]? with
  | none => rfl
  | some o =>
    cases o with
    | lst w xs => cases w <;> rfl
    | dk kvs => rfl
def revO (i : Nat) : Option O → Sto → R D
  | some (.lst true xs), S => .ok .non (S.set i (.lst true xs.reverse))
  | _, _ => .no
@[simp] theorem revO_l {i : Nat} {xs : List D} : revO i (some (.lst true xs)) S = .ok .non (S.set i (.lst true xs.reverse)) := id rfl
@[simp] theorem rev_ref {i : Nat} : reverseD (.ref i) [] S = revO i S[i]? S := by
  unfold reverseD revO
  dsimp only
  cases S[i]? with
  | none => rfl
  | some o =>
    cases o with
    | lst w xs => cases w <;> rfl
    | dk kvs => rfl
def lstO : Option O → Sto → R D
  | some (.lst _ xs), S => if xs.length ≤ mx then .ok (.ref S.length) (S ++ [.lst true xs]) else .no
  | _, _ => .no
@[simp] theorem lstO_l {w : Bool} {xs : List D} : lstO (some (.lst w xs)) S = if xs.length ≤ mx then .ok (.ref S.length) (S ++ [.lst true xs]) else .no := id rfl
@[simp] theorem list_ref {i : Nat} : listD [.ref i] S = lstO S[i]? S := by
  unfold listD itemsD lstO
  dsimp only
  cases S[i]? with
  | none => rfl
  | some o => cases o <;> rfl
/-! sorted of a generator -/
noncomputable def sgK (t : Tg) (ta : DenT) (a : Den) (vs : List Nat) (lv : Lv) (ρ : Dv.Env) : Src → Sto → R D := fun src S => (glGo src.chk t (ta lv.dn) (a lv.dn) (wipeE ρ vs) src.items [] S).bind srtK
@[simp] theorem sgK_ap {t : Tg} {vs : List Nat} {src : Src} : sgK t ta a vs lv ρ src S = (glGo src.chk t (ta lv.dn) (a lv.dn) (wipeE ρ vs) src.items [] S).bind srtK := id rfl
@[simp] theorem ev_sg {di : DenI} {t : Tg} {vs : List Nat} : dSg di t ta a vs lv ρ S = (di lv ρ S).bind (sgK t ta a vs lv ρ) := id rfl
@[simp] theorem srtK_ap {ys : List D} : srtK ys S = if ys.all isPr = true ∧ ys.length ≤ mx then .ok (.ref S.length) (S ++ [.lst true (isort ltK ys)]) else .no := id rfl
end
/-! ### == of pairs -/
end Dv

namespace Dv
open PySem PySem.Spec PyProof.Rows L2

/-! ### things that can be shown -/
mutual
theorem toR_le {S : Sto} : ∀ {n k : Nat} {d : D} {p : PyData}, n ≤ k → toR S n d = some p → toR S k d = some p
  | 0, _, _, _, _, e => by cases e
  | n + 1, 0, _, _, h, _ => by omega
  | n + 1, k + 1, d, p, h, e => by
    cases d with
    | tup ds =>
      unfold toR at e ⊢
      obtain ⟨ps, e1, rfl⟩ := Option.map_eq_some_iff.mp e
      rw [toRs_le (by omega) e1]; rfl
    | ref i =>
      unfold toR at e ⊢
      split at e
      · rename_i b ds e0
        obtain ⟨ps, e1, rfl⟩ := Option.map_eq_some_iff.mp e
        rw [toRs_le (by omega) e1]; rfl
      · exact e
      · cases e
    | _ => exact e
theorem toRs_le {S : Sto} : ∀ {n k : Nat} {ds : List D} {ps : List PyData}, n ≤ k → toRs S n ds = some ps → toRs S k ds = some ps
  | n, k, [], ps, h, e => by
    have : ps = [] := by cases n <;> (cases e; rfl)
    subst this
    cases k <;> rfl
  | 0, _, _ :: _, _, _, e => by cases e
  | n + 1, 0, _ :: _, _, h, _ => by omega
  | n + 1, k + 1, d :: ds, ps, h, e => by
    unfold toRs at e ⊢
    split at e
    · rename_i p qs e1 e2
      cases e
      rw [toR_le (by omega) e1, toRs_le (by omega) e2]
    · cases e
end
/-- what is shown stays -/
def Kps (S S' : Sto) : Prop := (∀ (j : Nat) (b : Bool) (xs : List D), S[j]? = some (.lst b xs) → S'[j]? = some (.lst b xs)) ∧ ∀ j : Nat, S[j]? = some (.dk []) → S'[j]? = some (.dk [])
mutual
theorem toR_kp {S S' : Sto} (h : Kps S S') : ∀ {n : Nat} {d : D} {p : PyData}, toR S n d = some p → toR S' n d = some p
  | 0, _, _, e => by cases e
  | n + 1, d, p, e => by
    cases d with
    | tup ds =>
      unfold toR at e ⊢
      obtain ⟨ps, e1, rfl⟩ := Option.map_eq_some_iff.mp e
      rw [toRs_kp h e1]; rfl
    | ref i =>
      unfold toR at e ⊢
      split at e
      · rename_i b ds e0
        obtain ⟨ps, e1, rfl⟩ := Option.map_eq_some_iff.mp e
        rw [h.1 i b ds e0]
        simp only
        rw [toRs_kp h e1]; rfl
      · rename_i e0
        rw [h.2 i e0]; exact e
      · cases e
    | _ => exact e
theorem toRs_kp {S S' : Sto} (h : Kps S S') : ∀ {n : Nat} {ds : List D} {ps : List PyData}, toRs S n ds = some ps → toRs S' n ds = some ps
  | n, [], ps, e => by
    cases n <;> exact e
  | 0, _ :: _, _, e => by cases e
  | n + 1, d :: ds, ps, e => by
    unfold toRs at e ⊢
    split at e
    · rename_i p qs e1 e2
      cases e
      rw [toR_kp h e1, toRs_kp h e2]
    · cases e
end
/-- c: it may have dicts but has no lists; else it has no dicts -/
def Tg1 (c : Bool) (k w : Nat) (p : PyData) : Prop := p.showable = true ∧ p.leavesShort 64 = true ∧ p.weight ≤ w ∧ p.depth ≤ k ∧ (if c = true then noL p = true else p.hasDict = false)
def Tng (S : Sto) (c : Bool) (f k w : Nat) (d : D) : Prop := ∃ p, toR S f d = some p ∧ Tg1 c k w p
def Tg1s (c : Bool) (k w n : Nat) (ps : List PyData) : Prop := PyData.showableAll ps = true ∧ PyData.leavesShortAll 64 ps = true ∧ PyData.weightAll ps ≤ n * (w + 1) ∧ PyData.depthAll ps ≤ k ∧ (if c = true then noLs ps = true else PyData.hasDictAll ps = false)
theorem Tng.up {S : Sto} {c : Bool} {f k w f' k' w' : Nat} {d : D} (h : Tng S c f k w d) (h1 : f ≤ f') (h2 : k ≤ k') (h3 : w ≤ w') : Tng S c f' k' w' d := by
  obtain ⟨p, e, a, b, x, y, z⟩ := h
  exact ⟨p, toR_le h1 e, a, b, by omega, by omega, z⟩
theorem Tng.kp {S S' : Sto} {c : Bool} {f k w : Nat} {d : D} (h : Tng S c f k w d) (q : Kps S S') : Tng S' c f k w d := by
  obtain ⟨p, e, z⟩ := h
  exact ⟨p, toR_kp q e, z⟩
theorem Tng.fit {S : Sto} {c : Bool} {f k w : Nat} {d : D} (h : Tng S c f k w d) (h1 : f ≤ 1000) (h2 : k ≤ 60) (h3 : w ≤ 100000) : ∃ p, toR S 1000 d = some p ∧ fitP p = true := by
  obtain ⟨p, e, a, b, x, y, z⟩ := h
  refine ⟨p, toR_le h1 e, ?_⟩
  have hz : (!p.hasDict || noL p) = true := by
    cases c with
    | true => simp only [if_true] at z; rw [z]; simp
    | false => simp only [Bool.false_eq_true, if_false] at z; rw [z]; rfl
  unfold fitP
  rw [a, b, hz, decide_eq_true (show p.weight ≤ 100000 by omega), decide_eq_true (show p.depth ≤ 60 by omega)]
  rfl
theorem Tng.non {S : Sto} {c : Bool} : Tng S c 1 0 0 .non := ⟨.none, rfl, by simp [PyData.showable], by simp [PyData.leavesShort], by simp [PyData.weight], by simp [PyData.depth], by cases c <;> simp [noL, PyData.hasDict]⟩
theorem Tng.bl {S : Sto} {c b : Bool} : Tng S c 1 0 0 (.bl b) := ⟨.bool b, rfl, by simp [PyData.showable], by simp [PyData.leavesShort], by simp [PyData.weight], by simp [PyData.depth], by cases c <;> simp [noL, PyData.hasDict]⟩
theorem log2_100 {n : Nat} (h : n < 10 ^ 30) : n.log2 < 100 := by
  by_cases h0 : n = 0
  · subst h0; decide
  · exact (Nat.log2_lt h0).mpr (Nat.lt_trans h (by decide))
theorem Tng.int {S : Sto} {c : Bool} {i : Int} (h : i.natAbs < 10 ^ 30) : Tng S c 1 0 100 (.int i) := by
  have hl := log2_100 h
  refine ⟨.int i, rfl, by simp [PyData.showable]; omega, ?_, ?_, by simp [PyData.depth], by cases c <;> simp [noL, PyData.hasDict]⟩
  · simp only [PyData.leavesShort, decide_eq_true_eq]
    have e := int_text_length_le10 (k := 30) (by decide) h
    show (Str.ofString (toString i)).length ≤ 64
    rw [PySem.ofString_length]; omega
  · simp only [PyData.weight]
    split <;> omega
theorem Tng.str {S : Sto} {c : Bool} {x : Str} (h : x.cps.size ≤ 8) (h2 : (x.cps.toList.all fun c => decide (c < 16 ^ 8)) = true) : Tng S c 1 0 8 (.str x) :=
  ⟨.str x, rfl, by simp [PyData.showable], by simp only [PyData.leavesShort]; exact h2, by simp only [PyData.weight]; exact h, by simp [PyData.depth], by cases c <;> simp [noL, PyData.hasDict]⟩
theorem tngs {S : Sto} {c : Bool} {f k w : Nat} : ∀ {ds : List D}, (∀ d ∈ ds, Tng S c f k w d) → ∃ ps, toRs S (f + ds.length) ds = some ps ∧ Tg1s c k w ds.length ps
  | [], _ => ⟨[], by cases f <;> rfl, by simp [PyData.showableAll], by simp [PyData.leavesShortAll], by simp [PyData.weightAll], by simp [PyData.depthAll], by cases c <;> simp [noLs, PyData.hasDictAll]⟩
  | d :: ds, h => by
    obtain ⟨p, e, a1, a2, a3, a4, a5⟩ := h d List.mem_cons_self
    obtain ⟨ps, es, b1, b2, b3, b4, b5⟩ := tngs (ds := ds) fun x hx => h x (List.mem_cons_of_mem _ hx)
    refine ⟨p :: ps, ?_, ?_, ?_, ?_, ?_, ?_⟩
    · rw [List.length_cons, show f + (ds.length + 1) = (f + ds.length) + 1 from by omega]
      unfold toRs
      rw [toR_le (show f ≤ f + ds.length by omega) e, es]
    · simp only [PyData.showableAll, a1, b1, Bool.and_self]
    · simp only [PyData.leavesShortAll, a2, b2, Bool.and_self]
    · simp only [PyData.weightAll, List.length_cons]
      rw [Nat.add_mul]; omega
    · simp only [PyData.depthAll]; omega
    · cases c <;> simp_all [noLs, PyData.hasDictAll]
theorem Tng.tup {S : Sto} {c : Bool} {f k w n : Nat} {ds : List D} (h : ∀ d ∈ ds, Tng S c f k w d) (hn : ds.length ≤ n) : Tng S c (f + n + 1) (k + 1) (n * (w + 1)) (.tup ds) := by
  obtain ⟨ps, e, b1, b2, b3, b4, b5⟩ := tngs h
  refine ⟨.tuple ps, ?_, ?_, ?_, ?_, ?_, ?_⟩
  · unfold toR
    rw [toRs_le (show f + ds.length ≤ f + n by omega) e]; rfl
  · simpa [PyData.showable] using b1
  · simpa [PyData.leavesShort] using b2
  · simp only [PyData.weight]
    exact Nat.le_trans b3 (Nat.mul_le_mul_right _ hn)
  · simp only [PyData.depth]; omega
  · cases c <;> simpa [noL, PyData.hasDict] using b5
theorem Tng.lst {S : Sto} {f k w n i : Nat} {b : Bool} {ds : List D} (hi : S[i]? = some (.lst b ds)) (h : ∀ d ∈ ds, Tng S false f k w d) (hn : ds.length ≤ n) : Tng S false (f + n + 1) (k + 1) (n * (w + 1)) (.ref i) := by
  obtain ⟨ps, e, b1, b2, b3, b4, b5⟩ := tngs h
  refine ⟨.list ps, ?_, ?_, ?_, ?_, ?_, ?_⟩
  · unfold toR
    rw [hi]
    simp only
    rw [toRs_le (show f + ds.length ≤ f + n by omega) e]; rfl
  · simpa [PyData.showable] using b1
  · simpa [PyData.leavesShort] using b2
  · simp only [PyData.weight]
    exact Nat.le_trans b3 (Nat.mul_le_mul_right _ hn)
  · simp only [PyData.depth]; omega
  · simpa [PyData.hasDict] using b5
theorem Tng.dk {S : Sto} {i : Nat} (hi : S[i]? = some (.dk [])) : Tng S true 1 1 0 (.ref i) := by
  refine ⟨.dict [], ?_, by simp [PyData.showable, PyData.showableKv], by simp [PyData.leavesShort, PyData.leavesShortKv], by simp [PyData.weight, PyData.weightKv], by simp [PyData.depth, PyData.depthKv], by simp [noL]⟩
  unfold toR
  rw [hi]
end Dv

namespace Dv
open PySem PySem.Spec PyProof.Rows L2
section
variable {S : Sto} {lv : Lv} {ρ : Dv.Env}
def getO (k : L2.Key) : Option O → Sto → R D
  | some (.dk kvs), S => optR (valK kvs k) S
  | _, _ => .no
@[simp] theorem getO_d {k : L2.Key} {kvs : List (L2.Key × D)} : getO k (some (.dk kvs)) S = optR (valK kvs k) S := id rfl
@[simp] theorem get_s {i : Nat} {x : Str} : getKD (.ref i) (.str x) S = getO (.inr x) S[i]? S := by
  simp only [getKD, dkD, kyD]
  generalize S[i]? = o
  rcases o with _ | (_ | kvs)
  · rfl
  · rfl
  · simp only [getO_d]
    cases valK kvs (.inr x) <;> rfl
def putO (i : Nat) (k : L2.Key) (v : D) : Option O → Sto → R Unit
  | some (.dk kvs), S => if kvs.length ≤ mx then .ok () (S.set i (.dk (setK kvs k v))) else .no
  | _, _ => .no
@[simp] theorem putO_d {i : Nat} {k : L2.Key} {v : D} {kvs : List (L2.Key × D)} : putO i k v (some (.dk kvs)) S = if kvs.length ≤ mx then .ok () (S.set i (.dk (setK kvs k v))) else .no := id rfl
@[simp] theorem put_s {i : Nat} {x : Str} {v : D} : putKD (.ref i) (.str x) v S = putO i (.inr x) v S[i]? S := by
  simp only [putKD, kyD]
  generalize S[i]? = o
  rcases o with _ | (_ | kvs) <;> rfl
def swK3 (f : D → D → D → Sto → R Unit) (v x : D) (ρ : Dv.Env) : D → Sto → R Fl := fun y S => (f x y v S).bindS ρ (suK4 ρ)
@[simp] theorem swK3_ap {f : D → D → D → Sto → R Unit} {v x y : D} : swK3 f v x ρ y S = (f x y v S).bindS ρ (suK4 ρ) := id rfl
def swK2 (f : D → D → D → Sto → R Unit) (i : Den) (lv : Lv) (ρ : Dv.Env) (v : D) : D → Sto → R Fl := fun x S => (i lv ρ S).bindS ρ (swK3 f v x ρ)
@[simp] theorem swK2_ap {f : D → D → D → Sto → R Unit} {i : Den} {v x : D} : swK2 f i lv ρ v x S = (i lv ρ S).bindS ρ (swK3 f v x ρ) := id rfl
def swK1 (f : D → D → D → Sto → R Unit) (o i : Den) (lv : Lv) (ρ : Dv.Env) : D → Sto → R Fl := fun v S => (o lv ρ S).bindS ρ (swK2 f i lv ρ v)
@[simp] theorem swK1_ap {f : D → D → D → Sto → R Unit} {o i : Den} {v : D} : swK1 f o i lv ρ v S = (o lv ρ S).bindS ρ (swK2 f i lv ρ v) := id rfl
@[simp] theorem ev_subW {f : D → D → D → Sto → R Unit} {o i a : Den} : sSubW f o i a lv ρ S = (a lv ρ S).bindS ρ (swK1 f o i lv ρ) := id rfl
@[simp] theorem int_b {c : Bool} : intD [.bl c] S = .ok (.int (if c then 1 else 0)) S := id rfl
@[simp] theorem int_i {i : Int} : intD [.int i] S = .ok (.int i) S := id rfl
def repO : Option PyData → Sto → R D
  | some p, S => if fitP p = true then .ok (.str p.shown) S else .no
  | none, _ => .no
@[simp] theorem repO_s {p : PyData} : repO (some p) S = if fitP p = true then .ok (.str p.shown) S else .no := id rfl
@[simp] theorem repr_1 {d : D} : reprD [d] S = repO (toR S 1000 d) S := by
  simp only [reprD]
  generalize toR S 1000 d = o
  cases o <;> rfl
@[simp] theorem ne_s {x y : Str} : neD (.str x) (.str y) S = .ok (.bl (!decide (x = y))) S := id rfl
@[simp] theorem eq_s {x y : Str} : eqD (.str x) (.str y) S = .ok (.bl (decide (x = y))) S := id rfl
@[simp] theorem ev_pnil : pNil lv ρ S = .ok [] S := id rfl
def pcK3 (q : L2.Key) (y : D) : List (L2.Key × D) → Sto → R (List (L2.Key × D)) := fun m S => .ok ((q, y) :: m) S
@[simp] theorem pcK3_ap {q : L2.Key} {y : D} {m : List (L2.Key × D)} : pcK3 q y m S = .ok ((q, y) :: m) S := id rfl
def pcO (r : DenP) (lv : Lv) (ρ : Dv.Env) (y : D) : Option L2.Key → Sto → R (List (L2.Key × D))
  | some q, S => (r lv ρ S).bind (pcK3 q y)
  | none, _ => .no
@[simp] theorem pcO_s {r : DenP} {y : D} {q : L2.Key} : pcO r lv ρ y (some q) S = (r lv ρ S).bind (pcK3 q y) := id rfl
def pcK2 (r : DenP) (lv : Lv) (ρ : Dv.Env) (x : D) : D → Sto → R (List (L2.Key × D)) := fun y S => pcO r lv ρ y (kyD x) S
@[simp] theorem pcK2_ap {r : DenP} {x y : D} : pcK2 r lv ρ x y S = pcO r lv ρ y (kyD x) S := id rfl
def pcK1 (v : Den) (r : DenP) (lv : Lv) (ρ : Dv.Env) : D → Sto → R (List (L2.Key × D)) := fun x S => (v lv ρ S).bind (pcK2 r lv ρ x)
@[simp] theorem pcK1_ap {v : Den} {r : DenP} {x : D} : pcK1 v r lv ρ x S = (v lv ρ S).bind (pcK2 r lv ρ x) := id rfl
@[simp] theorem ev_pcons {k v : Den} {r : DenP} : pCons k v r lv ρ S = (k lv ρ S).bind (pcK1 v r lv ρ) := by
  unfold pCons
  congr 1; funext x S1
  simp only [pcK1_ap]
  congr 1; funext y S2
  simp only [pcK2_ap]
  cases kyD x <;> rfl
@[simp] theorem ky_s {x : Str} : kyD (.str x) = some (.inr x) := id rfl
@[simp] theorem ky_i {i : Int} : kyD (.int i) = some (.inl i) := id rfl
def diO (n : Nat) (m : List (L2.Key × D)) : Option O → Sto → R D
  | some (.dk []), S => if m.length ≤ 15 then .ok (.ref n) (S.set n (.dk (mergeD [] m))) else .no
  | _, _ => .no
@[simp] theorem diO_e {n : Nat} {m : List (L2.Key × D)} : diO n m (some (.dk [])) S = if m.length ≤ 15 then .ok (.ref n) (S.set n (.dk (mergeD [] m))) else .no := id rfl
def diK (n : Nat) : List (L2.Key × D) → Sto → R D := fun m S => diO n m S[n]? S
@[simp] theorem diK_ap {n : Nat} {m : List (L2.Key × D)} : diK n m S = diO n m S[n]? S := id rfl
@[simp] theorem ev_disp {p : DenP} : dDisp p lv ρ S = (p lv ρ (S ++ [.dk []])).bind (diK S.length) := by
  unfold dDisp
  congr 1; funext m S1
  simp only [diK_ap]
  generalize S1[S.length]? = o
  rcases o with _ | (_ | (_ | _)) <;> rfl
end
/-! ### the pen that is a dict -/
def penO (s a l : D) : List (L2.Key × D) := [(.inr "script", s), (.inr "at", a), (.inr "left", l)]
@[simp] theorem po_s {s a l : D} : valK (penO s a l) (.inr "script") = some s := id rfl
@[simp] theorem po_a {s a l : D} : valK (penO s a l) (.inr "at") = some a := id rfl
@[simp] theorem po_l {s a l : D} : valK (penO s a l) (.inr "left") = some l := id rfl
@[simp] theorem pu_a {s a l v : D} : setK (penO s a l) (.inr "at") v = penO s v l := id rfl
@[simp] theorem pu_l {s a l v : D} : setK (penO s a l) (.inr "left") v = penO s a v := id rfl
@[simp] theorem po_m {s a l : D} : mergeD [] [(.inr "script", s), (.inr "at", a), (.inr "left", l)] = penO s a l := id rfl
@[simp] theorem po_n {s a l : D} : (penO s a l).length = 3 := id rfl
def PenD (S : Sto) (r : Nat) : Prop := ∃ (s : Nat) (w : Bool) (ns : List Int) (a l : Int), S[r]? = some (.dk (penO (.ref s) (.int a) (.int l))) ∧ S[s]? = some (.lst w (ns.map D.int)) ∧ s < r ∧ ns.length ≤ 63 ∧ 0 ≤ a ∧ 0 ≤ l
structure EvD (r : Nat) (S S' : Sto) : Prop where
  kp : ∀ (j : Nat) o, j ≠ r → S[j]? = some o → S'[j]? = some o
  pn : PenD S' r
  ln : S.length ≤ S'.length
theorem PenD.lt {r : Nat} {S : Sto} (h : PenD S r) : r < S.length := by
  obtain ⟨_, _, _, _, _, e, _⟩ := h
  exact (List.getElem?_eq_some_iff.mp e).1
theorem PenD.keep {r : Nat} {S S' : Sto} (h : PenD S r) (hr : ∀ (j : Nat) o, S[j]? = some o → S'[j]? = some o) : PenD S' r := by
  obtain ⟨s, w, ns, a, l, e1, e2, q⟩ := h
  exact ⟨s, w, ns, a, l, hr _ _ e1, hr _ _ e2, q⟩
theorem EvD.refl {r : Nat} {S : Sto} (h : PenD S r) : EvD r S S := ⟨fun _ _ _ e => e, h, Nat.le_refl _⟩
theorem EvD.trans {r : Nat} {S1 S2 S3 : Sto} (a : EvD r S1 S2) (b : EvD r S2 S3) : EvD r S1 S3 := ⟨fun j o n e => b.kp j o n (a.kp j o n e), b.pn, Nat.le_trans a.ln b.ln⟩
theorem EvD.app {r : Nat} {S : Sto} (h : PenD S r) (T : Sto) : EvD r S (S ++ T) := by
  have kp : ∀ (j : Nat) o, S[j]? = some o → (S ++ T)[j]? = some o := fun j o e => by rw [List.getElem?_append_left (List.getElem?_eq_some_iff.mp e).1]; exact e
  exact ⟨fun j o _ e => kp j o e, h.keep kp, by simp⟩
theorem EvD.app' {r : Nat} {S S' : Sto} (h : EvD r S S') (T : Sto) : EvD r S (S' ++ T) := h.trans (EvD.app h.pn T)
/-- something that is new since S is written -/
theorem EvD.put {r l : Nat} {S S' : Sto} {o : O} (h : EvD r S S') (hp : PenD S r) (hl : S.length ≤ l) : EvD r S (S'.set l o) := by
  have hr := hp.lt
  refine ⟨fun j u n e => ?_, ?_, by rw [List.length_set]; exact h.ln⟩
  · have hj := (List.getElem?_eq_some_iff.mp e).1
    rw [List.getElem?_set_ne (by omega)]
    exact h.kp j u n e
  · obtain ⟨s, w, ns, a, b, e1, e2, q1, q⟩ := h.pn
    exact ⟨s, w, ns, a, b, by rw [List.getElem?_set_ne (by omega)]; exact e1, by rw [List.getElem?_set_ne (by omega)]; exact e2, q1, q⟩
theorem EvD.kps {r : Nat} {S S' : Sto} (h : EvD r S S') (hp : PenD S r) : Kps S S' := by
  obtain ⟨s, w, ns, a, l, e1, _⟩ := hp
  refine ⟨fun j b xs e => h.kp j _ (fun z => ?_) e, fun j e => h.kp j _ (fun z => ?_) e⟩
  · subst z; rw [e1] at e; cases e
  · subst z; rw [e1] at e; cases e
end Dv

namespace Dv
open PySem PySem.Spec PyProof.Rows L2
section
variable {bs : Bodies} {m : Nat} {S : Sto}
end
end Dv

namespace Dv
open PySem PySem.Spec PyProof.Rows L2
/-- two small numbers -/
def BP (y : D) : Prop := ∃ i j : Int, y = .tup [.int i, .int j] ∧ 0 ≤ i ∧ i ≤ 8 ∧ 0 ≤ j ∧ j ≤ 8
def AllB (ts : List D) : Prop := ∀ x ∈ ts, BP x
theorem AllB.app {xs ys : List D} (a : AllB xs) (b : AllB ys) : AllB (xs ++ ys) := fun y hy => (List.mem_append.mp hy).elim (a y) (b y)
theorem AllB.nil : AllB [] := fun _ h => nomatch h
theorem AllB.one {i j : Int} (h : 0 ≤ i ∧ i ≤ 8 ∧ 0 ≤ j ∧ j ≤ 8) : AllB [.tup [.int i, .int j]] := fun y hy => by rw [List.mem_singleton.mp hy]; exact ⟨i, j, rfl, h⟩
theorem AllB.pr {xs : List D} (h : AllB xs) : AllPr xs := fun y hy => by
  obtain ⟨i, j, rfl, _⟩ := h y hy
  rfl
def pI (S : Sto) (r L l : Nat) (zs : List D) (T : Sto) : Prop := EvD r S T ∧ ∃ acc ys, T[L]? = some (.lst true acc) ∧ AllB acc ∧ T[l]? = some (.lst true ys) ∧ AllB ys ∧ acc.length + ys.length ≤ 64 ∧ zs.length ≤ ys.length
def mulO (k : Int) : Option O → Sto → R D
  | some (.lst true xs), S => if k ≤ 1000 ∧ -1000 ≤ k ∧ xs.length ≤ 1000 then .ok (.ref S.length) (S ++ [.lst true (List.replicate k.toNat xs).flatten]) else .no
  | _, _ => .no
@[simp] theorem mulO_l {k : Int} {xs : List D} {S : Sto} : mulO k (some (.lst true xs)) S = if k ≤ 1000 ∧ -1000 ≤ k ∧ xs.length ≤ 1000 then .ok (.ref S.length) (S ++ [.lst true (List.replicate k.toNat xs).flatten]) else .no := id rfl
@[simp] theorem mul_r {i : Nat} {k : Int} {S : Sto} : mulD (.ref i) (.int k) S = mulO k S[i]? S := by
  simp only [mulD]
  generalize S[i]? = o
  rcases o with _ | (⟨_ | _, _⟩ | _) <;> rfl
section
variable {bs : Bodies} {m iD r most : Nat} {S : Sto} {n w : Int}
end
end Dv

namespace Dv
open PySem PySem.Spec PyProof.Rows L2
/-- a truth or None -/
def KN (x : D) : Prop := x = .non ∨ ∃ b, x = .bl b
def AllK (xs : List D) : Prop := ∀ x ∈ xs, KN x
theorem AllK.app {xs ys : List D} (a : AllK xs) (b : AllK ys) : AllK (xs ++ ys) := fun y hy => (List.mem_append.mp hy).elim (a y) (b y)
section
variable {bs : Bodies} {m iD r : Nat} {S : Sto}
end
end Dv

namespace Dv
open PySem PySem.Spec PyProof.Rows L2
@[simp] theorem items_l {l : Nat} {w : Bool} {xs : List D} : (Src.lst l w xs).items = xs := id rfl
@[simp] theorem items_t {xs : List D} : (Src.tup xs).items = xs := id rfl
@[simp] theorem items_z {xs ys : List D} : (Src.zipT xs ys).items = (xs.zip ys).map pr2 := id rfl
/-! ### a comprehension whose parts have no effect -/
theorem lc_pure {T : Sto} {chk : Sto → Prop} {t : Tg} {cond : Dv.Env → Sto → R Bool} {elt : Dv.Env → Sto → R D} {ρ : Dv.Env} {p : D → Bool} {g : D → D} (hc : ∀ acc, chk (T ++ [.lst true acc])) :
    ∀ {xs acc : List D}, (∀ x ∈ xs, ∃ ρ1, tgD t x ρ = some ρ1 ∧ ∀ acc, cond ρ1 (T ++ [.lst true acc]) = .ok (p x) (T ++ [.lst true acc]) ∧ (p x = true → elt ρ1 (T ++ [.lst true acc]) = .ok (g x) (T ++ [.lst true acc]))) → acc.length + xs.length < mx →
      lcGo T.length chk t cond elt ρ xs (T ++ [.lst true acc]) = .ok (.ref T.length) (T ++ [.lst true (acc ++ (xs.filter p).map g)])
  | [], acc, _, _ => by
    unfold lcGo
    rw [if_pos (hc acc)]
    simp
  | x :: xs, acc, h, hl => by
    obtain ⟨ρ1, h1, h2⟩ := h x List.mem_cons_self
    obtain ⟨h3, h4⟩ := h2 acc
    rw [List.length_cons] at hl
    unfold lcGo
    rw [if_pos (hc acc)]
    simp only [h1, h3, quiet_ok, R.bind_ok]
    cases hp : p x with
    | false =>
      rw [if_neg (by decide), lc_pure hc (fun y hy => h y (List.mem_cons_of_mem _ hy)) (by omega)]
      rw [List.filter_cons_of_neg (by rw [hp]; decide)]
    | true =>
      rw [if_pos rfl]
      simp only [h4 hp, quiet_ok, R.bind_ok]
      have e : (T ++ [O.lst true acc])[T.length]? = some (.lst true acc) := by simp
      simp only [e]
      rw [if_pos (by omega)]
      have e2 : (T ++ [O.lst true acc]).set T.length (.lst true (acc ++ [g x])) = T ++ [.lst true (acc ++ [g x])] := by simp
      rw [e2, lc_pure hc (fun y hy => h y (List.mem_cons_of_mem _ hy)) (by rw [List.length_append, List.length_singleton]; omega)]
      rw [List.filter_cons_of_pos hp]
      simp
/-! ### in, of pairs -/
def prP : D → PyData
  | .tup [.int i, .int j] => .tuple [.int i, .int j]
  | _ => .none
def inW (t : D) (ws : List D) : Bool := ws.any fun y => decide (keyD y = keyD t)
theorem toP_bp {S : Sto} {n : Nat} {y : D} (h : BP y) : toP S (n + 5) y = some (prP y) := by
  obtain ⟨i, j, rfl, _⟩ := h
  simp [toP, toPs, prP]
theorem toPs_bp {S : Sto} {n : Nat} : ∀ {ws : List D}, AllB ws → toPs S (n + 5 + ws.length) ws = some (ws.map prP)
  | [], _ => by simp [toPs]
  | y :: ws, h => by
    rw [List.length_cons, show n + 5 + (ws.length + 1) = (n + 5 + ws.length) + 1 from by omega]
    unfold toPs
    rw [show n + 5 + ws.length = (n + ws.length) + 5 from by omega, toP_bp (h y List.mem_cons_self), show (n + ws.length) + 5 = n + 5 + ws.length from by omega, toPs_bp fun x hx => h x (List.mem_cons_of_mem _ hx)]
    rfl
theorem eqv_pr {x y : D} (hx : BP x) (hy : BP y) : PyData.eqv (prP x) (prP y) = decide (keyD x = keyD y) := by
  obtain ⟨i, j, rfl, _⟩ := hx
  obtain ⟨k, l, rfl, _⟩ := hy
  simp [prP, PyData.eqv, PyData.eqvAll, keyD]
  by_cases h1 : i = k <;> by_cases h2 : j = l <;> simp [h1, h2]
theorem shp_pr {y : D} (h : BP y) : SeqAt.shaped (prP y) = true := by
  obtain ⟨i, j, rfl, _⟩ := h
  simp [prP, SeqAt.shaped, PyData.canLay0, PyData.canLayAll0, PyData.depth, PyData.depthAll]
theorem shp_prs : ∀ {ws : List D}, AllB ws → PyData.canLayAll0 (ws.map prP) = true ∧ PyData.depthAll (ws.map prP) ≤ 1
  | [], _ => by simp [PyData.canLayAll0, PyData.depthAll]
  | y :: ws, h => by
    obtain ⟨a, b⟩ := shp_prs fun x hx => h x (List.mem_cons_of_mem _ hx)
    obtain ⟨i, j, rfl, _⟩ := h y List.mem_cons_self
    simp [prP, PyData.canLayAll0, PyData.canLay0, PyData.depthAll, PyData.depth, a]
    omega
theorem any_pr {t : D} (ht : BP t) : ∀ {ws : List D}, AllB ws → ((ws.map prP).any fun z => PyData.eqv z (prP t)) = inW t ws
  | [], _ => rfl
  | y :: ws, h => by
    simp only [List.map_cons, List.any_cons, inW]
    rw [eqv_pr (h y List.mem_cons_self) ht]
    have := any_pr ht fun x hx => h x (List.mem_cons_of_mem _ hx)
    unfold inW at this
    rw [this]
theorem inB_pr {S : Sto} {t : D} {ws : List D} (ht : BP t) (hw : AllB ws) (hl : ws.length ≤ 900) : inB t (.tup ws) S = some (inW t ws) := by
  have e1 : toP S 1000 t = some (prP t) := toP_bp (n := 995) ht
  have e2 : toP S 1000 (.tup ws) = some (.tuple (ws.map prP)) := by
    have e := toPs_bp (S := S) (n := 994 - ws.length) hw
    rw [show 994 - ws.length + 5 + ws.length = 999 from by omega] at e
    unfold toP
    rw [e]; rfl
  obtain ⟨a, b⟩ := shp_prs hw
  have s2 : SeqAt.shaped (.tuple (ws.map prP)) = true := by
    simp [SeqAt.shaped, PyData.canLay0, PyData.depth, a]; omega
  have ed : dkD (.tup ws) S = none := rfl
  unfold inB
  rw [ed, e1, e2]
  simp only
  rw [if_pos ⟨shp_pr ht, s2⟩, any_pr ht hw]
theorem in_pr {S : Sto} {t : D} {ws : List D} (ht : BP t) (hw : AllB ws) (hl : ws.length ≤ 900) : inD t (.tup ws) S = .ok (.bl (inW t ws)) S := by
  unfold inD; rw [inB_pr ht hw hl]
theorem nin_pr {S : Sto} {t : D} {ws : List D} (ht : BP t) (hw : AllB ws) (hl : ws.length ≤ 900) : ninD t (.tup ws) S = .ok (.bl (!inW t ws)) S := by
  unfold ninD; rw [inB_pr ht hw hl]
/-! ### all webs -/
def addT (t : D) : D → D
  | .tup xs => .tup (xs ++ [t])
  | d => d
def wbs : List D → List D → List D
  | ws, [] => ws
  | ws, t :: ts => wbs (ws ++ ws.map (addT t)) ts
noncomputable def websF : DenS := (sSeq (sAsg (.nm 1) (dLst (dCons (dTup dNil) dNil)))
    (sSeq (sFor (iVal (dOp ixD (dVar 0) (dC (.int 1)))) (.nm 2) (sAsg (.nm 1) (dOp addD (dVar 1) (dLc (iVal (dVar 1)) (.nm 3) tYesD (dOp addD (dVar 3) (dTup (dCons (dVar 2) dNil))) [3]))))
    (sRet (dVar 1))))
/-- only new things -/
structure Gw (S T : Sto) : Prop where
  kp : ∀ (j : Nat) o, S[j]? = some o → T[j]? = some o
  ln : S.length ≤ T.length
theorem Gw.refl {S : Sto} : Gw S S := ⟨fun _ _ e => e, Nat.le_refl _⟩
theorem Gw.trans {S T V : Sto} (a : Gw S T) (b : Gw T V) : Gw S V := ⟨fun j o e => b.kp j o (a.kp j o e), Nat.le_trans a.ln b.ln⟩
theorem Gw.app {S : Sto} (V : Sto) : Gw S (S ++ V) := ⟨fun j o e => by rw [List.getElem?_append_left (List.getElem?_eq_some_iff.mp e).1]; exact e, by simp⟩
theorem Gw.put {S T : Sto} {l : Nat} {o : O} (h : Gw S T) (hl : S.length ≤ l) : Gw S (T.set l o) := by
  refine ⟨fun j u e => ?_, by rw [List.length_set]; exact h.ln⟩
  have hj := (List.getElem?_eq_some_iff.mp e).1
  rw [List.getElem?_set_ne (by omega)]
  exact h.kp j u e
theorem Gw.kps {S T : Sto} (h : Gw S T) : Kps S T := ⟨fun j b xs e => h.kp j _ e, fun j e => h.kp j _ e⟩
def isT : D → Prop
  | .tup _ => True
  | _ => False
theorem isT_add {t d : D} (h : isT d) : ∃ xs, d = .tup xs ∧ addT t d = .tup (xs ++ [t]) := by
  cases d <;> first | exact h.elim | exact ⟨_, rfl, rfl⟩
def wP (S : Sto) (ws : List D) (d : D) (T : Sto) : Prop := ∃ l, d = .ref l ∧ S.length ≤ l ∧ T[l]? = some (.lst true ws) ∧ Gw S T
def wJ (S : Sto) (n : D) (ts : List D) (xs : List D) (ρ : Dv.Env) (T : Sto) : Prop := ∃ l ws o2, ρ = [some (.tup [n, .tup ts]), some (.ref l), o2, none] ∧ T[l]? = some (.lst true ws) ∧ S.length ≤ l ∧ Gw S T ∧ wbs ws xs = wbs [.tup []] ts ∧ (∀ w ∈ ws, isT w ∧ ∀ ys, w = .tup ys → ys.length + xs.length ≤ ts.length) ∧ ws.length * 2 ^ xs.length ≤ 2 ^ ts.length
theorem webs_ok {bs : Bodies} {m i : Nat} {S : Sto} {n : D} {ts : List D} (hW : bs[i]? = some (websF, 4)) (hm : 2 ≤ m) (hts : ts.length ≤ 7) : (Phi bs m 0 i [.tup [n, .tup ts]] S).wp (wP S (wbs [.tup []] ts)) noX := by
  have p7 : 2 ^ ts.length ≤ 2 ^ 7 := Nat.pow_le_pow_right (by omega) hts
  refine wpP hm hW ?_
  simp [websF, mx]
  refine for_inv (wJ S n ts) ?_ ?_ _ _ _ ?_
  · rintro x xs ρ T ⟨l, ws, o2, rfl, hl, ll, gw, ew, it, bw⟩
    refine ⟨trivial, _, rfl, ?_⟩
    have ltl := (List.getElem?_eq_some_iff.mp hl).1
    rw [List.length_cons, Nat.pow_succ] at bw
    have p0 : 0 < 2 ^ xs.length := Nat.pos_of_ne_zero (by simp)
    have bw2 : ws.length * 2 ≤ 128 := by
      have : ws.length * 2 * 1 ≤ ws.length * 2 * 2 ^ xs.length := Nat.mul_le_mul_left _ p0
      have e : ws.length * 2 * 2 ^ xs.length = ws.length * (2 ^ xs.length * 2) := by rw [Nat.mul_assoc, Nat.mul_comm 2]
      omega
    have hla : ∀ V : Sto, (T ++ V)[l]? = some (.lst true ws) := fun V => by rw [List.getElem?_append_left ltl]; exact hl
    simp [hl, wipeE]
    rw [lc_pure (p := fun _ => true) (g := addT x) (fun acc => hla _) (fun w hw => ?_) (by simp [mx]; omega)]
    · have fl : ws.filter (fun _ => true) = ws := List.filter_eq_self.mpr fun _ _ => rfl
      simp [hla, mx, fl]
      refine ⟨by omega, T.length + 1, ws ++ ws.map (addT x), _, rfl, by simp, by omega, gw.trans (Gw.app _), ew, fun w hw => ?_, ?_⟩
      · rcases List.mem_append.mp hw with z | z
        · refine ⟨(it w z).1, fun ys e => ?_⟩
          have := (it w z).2 ys e
          rw [List.length_cons] at this; omega
        · obtain ⟨w0, z0, rfl⟩ := List.mem_map.mp z
          obtain ⟨ys0, e0, e1⟩ := isT_add (t := x) (it w0 z0).1
          rw [e1]
          refine ⟨trivial, fun ys e => ?_⟩
          cases e
          have := (it w0 z0).2 ys0 e0
          rw [List.length_cons] at this
          simp; omega
      · rw [List.length_append, List.length_map, ← Nat.mul_two, Nat.mul_assoc, Nat.mul_comm 2]; exact bw
    · refine ⟨_, rfl, fun acc => ⟨rfl, fun _ => ?_⟩⟩
      obtain ⟨ys0, e0, e1⟩ := isT_add (t := x) (it w hw).1
      have := (it w hw).2 ys0 e0
      rw [List.length_cons] at this
      rw [e1, e0]
      simp [mx]
      rw [if_pos (by omega)]
      exact quiet_ok
  · rintro ρ T ⟨l, ws, o2, rfl, hl, ll, gw, ew, it, bw⟩
    refine ⟨trivial, ?_⟩
    simp
    exact ⟨l, rfl, ll, by rw [hl, ← ew]; rfl, gw⟩
  · exact ⟨S.length, [.tup []], none, rfl, by simp, Nat.le_refl _, Gw.app _, rfl, fun w hw => by rw [List.mem_singleton.mp hw]; exact ⟨trivial, fun ys e => by cases e; simp [Src.items]⟩, by simp [Src.items]⟩
end Dv

namespace Dv
open PySem PySem.Spec PyProof.Rows L2
def noB : D → Bool
  | .non => true
  | _ => false
def isB (b : Bool) : D → Bool
  | .bl a => decide (a = b)
  | _ => false
section
variable {S : Sto}
@[simp] theorem is_no {d : D} : isND d .non S = .ok (.bl (noB d)) S := by cases d <;> rfl
@[simp] theorem isn_no {d : D} : isnD d .non S = .ok (.bl (!noB d)) S := by cases d <;> rfl
@[simp] theorem is_bb {d : D} {b : Bool} : isND d (.bl b) S = .ok (.bl (isB b d)) S := by cases d <;> rfl
@[simp] theorem isn_bb {d : D} {b : Bool} : isnD d (.bl b) S = .ok (.bl (!isB b d)) S := by cases d <;> rfl
@[simp] theorem eq_bb {a b : Bool} : eqD (.bl a) (.bl b) S = .ok (.bl (decide (a = b))) S := id rfl
@[simp] theorem ziK_2 {x y : D} : ziK [x, y] S = srcR (zipS x y S) S := id rfl
@[simp] theorem zip_tt {xs ys : List D} : zipS (.tup xs) (.tup ys) S = some (.zipT xs ys) := id rfl
@[simp] theorem srcR_s {s : Src} : srcR (some s) S = .ok s S := id rfl
@[simp] theorem ev_zip {a : DenA} {lv : Lv} {ρ : Dv.Env} : iZip2 a lv ρ S = (a lv ρ S).bind ziK := id rfl
@[simp] theorem tg_p2 {i j : Nat} {ρ : Dv.Env} {p : D × D} : tgD (.tp [i, j]) (pr2 p) ρ = some ((ρ.set i (some p.1)).set j (some p.2)) := id rfl
end
/-! ### what fits -/
/-! ### webs are of ties -/
theorem Tng.small {S : Sto} {c : Bool} {i : Int} (h : i.natAbs < 16) : Tng S c 1 0 5 (.int i) := by
  obtain ⟨p, e, a, b, x, y, z⟩ := Tng.int (S := S) (c := c) (i := i) (by omega)
  cases e
  refine ⟨.int i, rfl, a, b, ?_, y, z⟩
  have hl : i.natAbs.log2 < 4 := by
    by_cases h0 : i.natAbs = 0
    · rw [h0]; decide
    · exact (Nat.log2_lt h0).mpr (by omega)
  simp only [PyData.weight]
  split <;> omega
end Dv

namespace Dv
open PySem PySem.Spec PyProof.Rows L2
/-! ### webs by their numbers -/
def wbK : List D → Nat → List D
  | [], _ => []
  | t :: ts, k => (if k % 2 = 1 then [t] else []) ++ wbK ts (k / 2)
def addTs (xs : List D) : D → D
  | .tup ys => .tup (ys ++ xs)
  | d => d
theorem range_two : ∀ m : Nat, List.range (m * 2) = (List.range m).flatMap fun k => [2 * k, 2 * k + 1]
  | 0 => rfl
  | m + 1 => by
    rw [show (m + 1) * 2 = m * 2 + 1 + 1 from by omega, List.range_succ, List.range_succ, List.range_succ, List.flatMap_append, ← range_two m]
    simp [Nat.mul_comm]
theorem addTs_nil {d : D} : addTs [] d = d := by cases d <;> simp [addTs]
theorem addTs_add {t d : D} {xs : List D} : addTs xs (addT t d) = addTs (t :: xs) d := by cases d <;> simp [addTs, addT]
theorem wbs_flat : ∀ {ts ws : List D}, wbs ws ts = (List.range (2 ^ ts.length)).flatMap fun k => ws.map (addTs (wbK ts k))
  | [], ws => by
    have : (fun d => addTs [] d) = id := funext fun d => addTs_nil
    simp [wbs, wbK, List.range_succ]
    show ws = ws.map (fun d => addTs [] d)
    rw [this, List.map_id]
  | t :: ts, ws => by
    unfold wbs
    rw [wbs_flat, List.length_cons, Nat.pow_succ, range_two, List.flatMap_assoc]
    congr 1
    funext k
    simp only [List.flatMap_cons, List.flatMap_nil, List.append_nil, List.map_append, List.map_map]
    have e0 : wbK (t :: ts) (2 * k) = wbK ts k := by
      rw [wbK, if_neg (by omega), show 2 * k / 2 = k from by omega, List.nil_append]
    have e1 : wbK (t :: ts) (2 * k + 1) = t :: wbK ts k := by
      rw [wbK, if_pos (by omega), show (2 * k + 1) / 2 = k from by omega]
      rfl
    rw [e0, e1]
    congr 1
    refine List.map_congr_left fun d _ => ?_
    exact addTs_add
theorem wbs_num {ts : List D} : wbs [.tup []] ts = (List.range (2 ^ ts.length)).map fun k => .tup (wbK ts k) := by
  rw [wbs_flat, List.map_eq_flatMap]
  congr 1
theorem wbK_app : ∀ {ps ts : List D} {k : Nat}, wbK (ps ++ ts) k = wbK ps k ++ wbK ts (k / 2 ^ ps.length)
  | [], ts, k => by simp [wbK]
  | p :: ps, ts, k => by
    rw [List.cons_append, wbK, wbK, wbK_app, List.length_cons, Nat.pow_succ, Nat.mul_comm, ← Nat.div_div_eq_div_mul, List.append_assoc]
theorem wbK_mem : ∀ {ts : List D} {k : Nat} {x : D}, x ∈ wbK ts k → x ∈ ts
  | t :: ts, k, x, h => by
    rw [wbK] at h
    rcases List.mem_append.mp h with z | z
    · split at z
      · rw [List.mem_singleton.mp z]; exact List.mem_cons_self
      · cases z
    · exact List.mem_cons_of_mem _ (wbK_mem z)
theorem wbK_len : ∀ {ts : List D} {k : Nat}, (wbK ts k).length ≤ ts.length
  | [], _ => by simp [wbK]
  | t :: ts, k => by
    rw [wbK, List.length_append, List.length_cons]
    have := wbK_len (ts := ts) (k := k / 2)
    split <;> simp <;> omega
/-- unlike ones -/
def Dst (ts : List D) : Prop := (ts.map keyD).Nodup
theorem inW_no {t : D} {ws : List D} (h : keyD t ∉ ws.map keyD) : inW t ws = false := by
  unfold inW
  rw [List.any_eq_false]
  intro y hy e
  exact h (by rw [← of_decide_eq_true e]; exact List.mem_map.mpr ⟨y, hy, rfl⟩)
theorem inW_app {t : D} {xs ys : List D} : inW t (xs ++ ys) = (inW t xs || inW t ys) := by simp [inW]
theorem inW_bit {ps ts : List D} {t : D} {k : Nat} (h : Dst (ps ++ t :: ts)) : inW t (wbK (ps ++ t :: ts) k) = decide (k / 2 ^ ps.length % 2 = 1) := by
  unfold Dst at h
  rw [List.map_append, List.map_cons, List.nodup_append] at h
  obtain ⟨h1, h2, h3⟩ := h
  have h4 := (List.nodup_cons.mp h2).1
  rw [wbK_app, wbK, inW_app, inW_app]
  rw [inW_no (t := t) (ws := wbK ps k), inW_no (t := t) (ws := wbK ts _)]
  · by_cases c : k / 2 ^ ps.length % 2 = 1
    · simp [c, inW]
    · simp [c, inW]
  · intro z
    obtain ⟨y, hy, e⟩ := List.mem_map.mp z
    exact h4 (by rw [← e]; exact List.mem_map.mpr ⟨y, wbK_mem hy, rfl⟩)
  · intro z
    obtain ⟨y, hy, e⟩ := List.mem_map.mp z
    exact h3 _ (List.mem_map.mpr ⟨y, wbK_mem hy, e⟩) _ List.mem_cons_self rfl
/-- the web of all other ties -/
theorem miss_bit : ∀ {ts ps : List D} {k : Nat}, Dst (ps ++ ts) → k / 2 ^ ps.length < 2 ^ ts.length → ts.filter (fun t => !inW t (wbK (ps ++ ts) k)) = wbK ts (2 ^ ts.length - 1 - k / 2 ^ ps.length)
  | [], ps, k, _, _ => by simp [wbK]
  | t :: ts, ps, k, h, hk => by
    have b := inW_bit (k := k) h
    have h' : Dst ((ps ++ [t]) ++ ts) := by simpa using h
    rw [List.length_cons, Nat.pow_succ] at hk
    have ed : k / 2 ^ (ps ++ [t]).length = k / 2 ^ ps.length / 2 := by rw [List.length_append, List.length_singleton, Nat.pow_succ, Nat.div_div_eq_div_mul]
    have ih := miss_bit (ts := ts) (ps := ps ++ [t]) (k := k) h' (by rw [ed]; omega)
    rw [ed] at ih
    rw [show ps ++ [t] ++ ts = ps ++ t :: ts from by simp] at ih
    have p0 : 0 < 2 ^ ts.length := Nat.pos_of_ne_zero (by simp)
    rw [wbK, List.length_cons, Nat.pow_succ]
    generalize k / 2 ^ ps.length = q at *
    by_cases c : q % 2 = 1
    · rw [List.filter_cons_of_neg (by rw [b]; simp [c]), ih, if_neg (by omega), List.nil_append]
      congr 1
      omega
    · rw [List.filter_cons_of_pos (by rw [b]; simp [c]), ih, if_pos (by omega)]
      rw [List.singleton_append]
      congr 2
      omega
/-! ### a generator whose parts have no effect -/
theorem gl_pure {S : Sto} {chk : Sto → Prop} {t : Tg} {cond : Dv.Env → Sto → R Bool} {elt : Dv.Env → Sto → R D} {ρ : Dv.Env} {p : D → Bool} {g : D → D} (hc : chk S) :
    ∀ {xs acc : List D}, (∀ x ∈ xs, ∃ ρ1, tgD t x ρ = some ρ1 ∧ cond ρ1 S = .ok (p x) S ∧ (p x = true → elt ρ1 S = .ok (g x) S)) → acc.length + xs.length < mx → glGo chk t cond elt ρ xs acc S = .ok (acc ++ (xs.filter p).map g) S
  | [], acc, _, _ => by
    unfold glGo
    rw [if_pos hc]
    simp
  | x :: xs, acc, h, hl => by
    obtain ⟨ρ1, h1, h2, h3⟩ := h x List.mem_cons_self
    rw [List.length_cons] at hl
    unfold glGo
    rw [if_pos hc]
    simp only [h1, h2, quiet_ok, R.bind_ok]
    cases hp : p x with
    | false =>
      rw [if_neg (by decide), gl_pure hc (fun y hy => h y (List.mem_cons_of_mem _ hy)) (by omega)]
      rw [List.filter_cons_of_neg (by rw [hp]; decide)]
    | true =>
      rw [if_pos rfl]
      simp only [h3 hp, quiet_ok, R.bind_ok]
      rw [if_pos (by omega), gl_pure hc (fun y hy => h y (List.mem_cons_of_mem _ hy)) (by rw [List.length_append, List.length_singleton]; omega)]
      rw [List.filter_cons_of_pos hp]
      simp
/-! ### number_of, missing -/
noncomputable def numberF : DenS := (sSeq (sAsg (.nm 2) (dC (.int 0)))
    (sSeq (sAsg (.nm 3) (dC (.int 1)))
    (sSeq (sFor (iVal (dOp ixD (dVar 0) (dC (.int 1)))) (.nm 4) (sSeq (sIf (dBl (dOp inD (dVar 4) (dVar 1))) (sAug 2 iaddD (dVar 3)) sNil)
    (sAug 3 imulD (dC (.int 2)))))
    (sRet (dVar 2)))))
noncomputable def missF : DenS := (sRet (dTg (iVal (dOp ixD (dVar 0) (dC (.int 1)))) (.nm 2) (dBl (dOp ninD (dVar 2) (dVar 1))) (dVar 2) [2]))
section
variable {S : Sto} {lv : Lv} {ρ : Dv.Env}
@[simp] theorem iadd_i {i j : Int} : iaddD (.int i) (.int j) S = .ok (.int (i + j)) S := id rfl
@[simp] theorem imul_i {i j : Int} : imulD (.int i) (.int j) S = if (-18446744073709551616 < i ∧ i < 18446744073709551616) ∨ (-18446744073709551616 < j ∧ j < 18446744073709551616) then .ok (.int (i * j)) S else .no := id rfl
def auK2 (i : Nat) (ρ : Dv.Env) : D → Sto → R Fl := fun z S => .ok (.nx (ρ.set i (some z))) S
@[simp] theorem auK2_ap {i : Nat} {z : D} : auK2 i ρ z S = .ok (.nx (ρ.set i (some z))) S := id rfl
def auK1 (i : Nat) (o : Op2) (x : D) (ρ : Dv.Env) : D → Sto → R Fl := fun y S => (quiet (o x y S)).bindS ρ (auK2 i ρ)
@[simp] theorem auK1_ap {i : Nat} {o : Op2} {x y : D} : auK1 i o x ρ y S = (quiet (o x y S)).bindS ρ (auK2 i ρ) := id rfl
def auO (i : Nat) (o : Op2) (e : Den) (lv : Lv) (ρ : Dv.Env) : Option (Option D) → Sto → R Fl
  | some (some x), S => (e lv ρ S).bindS ρ (auK1 i o x ρ)
  | _, _ => .no
@[simp] theorem auO_s {i : Nat} {o : Op2} {e : Den} {x : D} : auO i o e lv ρ (some (some x)) S = (e lv ρ S).bindS ρ (auK1 i o x ρ) := id rfl
@[simp] theorem ev_aug {i : Nat} {o : Op2} {e : Den} : sAug i o e lv ρ S = auO i o e lv ρ ρ[i]? S := by
  simp only [sAug]
  generalize ρ[i]? = q
  rcases q with _ | (_ | _) <;> rfl
@[simp] theorem tgK_ap {ys : List D} : tgK ys S = if ys.length ≤ mx then .ok (.tup ys) S else .no := id rfl
noncomputable def tgG (t : Tg) (ta : DenT) (a : Den) (vs : List Nat) (lv : Lv) (ρ : Dv.Env) : Src → Sto → R D := fun src S => (glGo src.chk t (ta lv.dn) (a lv.dn) (wipeE ρ vs) src.items [] S).bind tgK
@[simp] theorem tgG_ap {t : Tg} {ta : DenT} {a : Den} {vs : List Nat} {src : Src} : tgG t ta a vs lv ρ src S = (glGo src.chk t (ta lv.dn) (a lv.dn) (wipeE ρ vs) src.items [] S).bind tgK := id rfl
@[simp] theorem ev_tg {di : DenI} {t : Tg} {ta : DenT} {a : Den} {vs : List Nat} : dTg di t ta a vs lv ρ S = (di lv ρ S).bind (tgG t ta a vs lv ρ) := id rfl
end
def nuJ (n : D) (ts : List D) (k : Nat) (S : Sto) (xs : List D) (ρ : Dv.Env) (T : Sto) : Prop := ∃ (ps : List D) (o4 : Option D) (a w : Nat), ρ = [some (.tup [n, .tup ts]), some (.tup (wbK ts k)), some (.int (a : Int)), some (.int (w : Int)), o4] ∧ T = S ∧ ps ++ xs = ts ∧ a = k % 2 ^ ps.length ∧ w = 2 ^ ps.length
section
variable {bs : Bodies} {m i : Nat} {S : Sto} {n : D} {ts : List D} {k : Nat}
theorem number_eq (hN : bs[i]? = some (numberF, 5)) (hm : 2 ≤ m) (ht : AllB ts) (hd : Dst ts) (h7 : ts.length ≤ 7) (hk : k < 2 ^ ts.length) : Phi bs m 0 i [.tup [n, .tup ts], .tup (wbK ts k)] S = .ok (.int (k : Nat)) S := by
  have hw : AllB (wbK ts k) := fun x hx => ht x (wbK_mem hx)
  have hl : (wbK ts k).length ≤ 900 := Nat.le_trans wbK_len (by omega)
  refine R.eq_of (wpP hm hN ?_)
  simp [numberF]
  refine for_inv (nuJ n ts k S) ?_ ?_ _ _ _ ?_
  · rintro x xs ρ T ⟨ps, o4, a, w, rfl, rfl, e, ea, ew⟩
    refine ⟨trivial, _, rfl, ?_⟩
    have hx : BP x := ht x (by rw [← e]; simp)
    have b := inW_bit (ps := ps) (ts := xs) (t := x) (k := k) (by rw [e]; exact hd)
    rw [e] at b
    have sm := Nat.mod_pow_succ (x := k) (b := 2) (k := ps.length)
    have p7 : 2 ^ ps.length ≤ 2 ^ 7 := Nat.pow_le_pow_right (by omega) (by rw [← e] at h7; simp at h7; omega)
    have w7 : w ≤ 128 := by rw [ew]; exact p7
    have nx : ∀ v : Int, (v = ((k % 2 ^ (ps.length + 1) : Nat) : Int)) → nuJ n ts k T xs [some (.tup [n, .tup ts]), some (.tup (wbK ts k)), some (.int v), some (.int ((w : Int) * 2)), some x] T := fun v hv => by
      subst hv
      refine ⟨ps ++ [x], some x, k % 2 ^ (ps.length + 1), w * 2, by simp, rfl, by simpa using e, by simp, ?_⟩
      rw [List.length_append, List.length_singleton, Nat.pow_succ, ew]
    by_cases c : k / 2 ^ ps.length % 2 = 1
    · have bt : inW x (wbK ts k) = true := by rw [b]; simp [c]
      simp [in_pr hx hw hl, bt]
      refine nx _ ?_
      rw [sm, c, ea, ew]
      simp
    · have bt : inW x (wbK ts k) = false := by rw [b]; simp [c]
      have c0 : k / 2 ^ ps.length % 2 = 0 := by omega
      simp [in_pr hx hw hl, bt]
      refine nx _ ?_
      rw [sm, c0, ea]
      simp
  · rintro ρ T ⟨ps, o4, a, w, rfl, rfl, e, ea, ew⟩
    refine ⟨trivial, ?_⟩
    simp at e
    subst e
    simp
    rw [ea, Nat.mod_eq_of_lt hk]
  · exact ⟨[], none, 0, 1, rfl, rfl, rfl, by simp [Nat.mod_one], rfl⟩
theorem miss_eq (hM : bs[i]? = some (missF, 3)) (hm : 2 ≤ m) (ht : AllB ts) (hd : Dst ts) (h7 : ts.length ≤ 7) (hk : k < 2 ^ ts.length) : Phi bs m 0 i [.tup [n, .tup ts], .tup (wbK ts k)] S = .ok (.tup (wbK ts (2 ^ ts.length - 1 - k))) S := by
  have hw : AllB (wbK ts k) := fun x hx => ht x (wbK_mem hx)
  have hl : (wbK ts k).length ≤ 900 := Nat.le_trans wbK_len (by omega)
  have mb := miss_bit (ts := ts) (ps := []) (k := k) hd (by simpa using hk)
  simp at mb
  refine R.eq_of (wpP hm hM ?_)
  simp [missF]
  rw [gl_pure (p := fun t => !inW t (wbK ts k)) (g := id) trivial (fun x hx => ⟨_, rfl, ?_, fun _ => ?_⟩) (by simp [mx]; omega)]
  · simp [mx, mb]
    exact Nat.le_trans wbK_len (by omega)
  · simp [wipeE, nin_pr (ht x hx) hw hl]
  · simp [wipeE]
end
end Dv

namespace Dv
open PySem PySem.Spec PyProof.Rows L2
/-! ### things that are alike -/
mutual
theorem toP_le {S : Sto} : ∀ {n k : Nat} {d : D} {p : PyData}, n ≤ k → toP S n d = some p → toP S k d = some p
  | 0, _, _, _, _, e => by cases e
  | n + 1, 0, _, _, h, _ => by omega
  | n + 1, k + 1, d, p, h, e => by
    cases d with
    | tup ds =>
      unfold toP at e ⊢
      obtain ⟨ps, e1, rfl⟩ := Option.map_eq_some_iff.mp e
      rw [toPs_le (by omega) e1]; rfl
    | ref i =>
      unfold toP at e ⊢
      split at e
      · rename_i b ds e0
        obtain ⟨ps, e1, rfl⟩ := Option.map_eq_some_iff.mp e
        rw [toPs_le (by omega) e1]; rfl
      · cases e
    | _ => exact e
theorem toPs_le {S : Sto} : ∀ {n k : Nat} {ds : List D} {ps : List PyData}, n ≤ k → toPs S n ds = some ps → toPs S k ds = some ps
  | n, k, [], ps, h, e => by
    have : ps = [] := by cases n <;> (cases e; rfl)
    subst this
    cases k <;> rfl
  | 0, _, _ :: _, _, _, e => by cases e
  | n + 1, 0, _ :: _, _, h, _ => by omega
  | n + 1, k + 1, d :: ds, ps, h, e => by
    unfold toPs at e ⊢
    split at e
    · rename_i p qs e1 e2
      cases e
      rw [toP_le (by omega) e1, toPs_le (by omega) e2]
    · cases e
end
def Shp (S : Sto) (f k : Nat) (d : D) : Prop := ∃ p, toP S f d = some p ∧ p.canLay0 = true ∧ p.depth ≤ k
theorem Shp.up {S : Sto} {f k f' k' : Nat} {d : D} (h : Shp S f k d) (h1 : f ≤ f') (h2 : k ≤ k') : Shp S f' k' d := by
  obtain ⟨p, e, a, b⟩ := h
  exact ⟨p, toP_le h1 e, a, by omega⟩
theorem Shp.int {S : Sto} {i : Int} : Shp S 1 0 (.int i) := ⟨.int i, rfl, by simp [PyData.canLay0], by simp [PyData.depth]⟩
theorem shps {S : Sto} {f k : Nat} : ∀ {ds : List D}, (∀ d ∈ ds, Shp S f k d) → ∃ ps, toPs S (f + ds.length) ds = some ps ∧ PyData.canLayAll0 ps = true ∧ PyData.depthAll ps ≤ k
  | [], _ => ⟨[], by cases f <;> rfl, by simp [PyData.canLayAll0], by simp [PyData.depthAll]⟩
  | d :: ds, h => by
    obtain ⟨p, e, a1, a2⟩ := h d List.mem_cons_self
    obtain ⟨ps, es, b1, b2⟩ := shps (ds := ds) fun x hx => h x (List.mem_cons_of_mem _ hx)
    refine ⟨p :: ps, ?_, ?_, ?_⟩
    · rw [List.length_cons, show f + (ds.length + 1) = (f + ds.length) + 1 from by omega]
      unfold toPs
      rw [toP_le (show f ≤ f + ds.length by omega) e, es]
    · simp only [PyData.canLayAll0, a1, b1, Bool.and_self]
    · simp only [PyData.depthAll]; omega
theorem Shp.tup {S : Sto} {f k n : Nat} {ds : List D} (h : ∀ d ∈ ds, Shp S f k d) (hn : ds.length ≤ n) : Shp S (f + n + 1) (k + 1) (.tup ds) := by
  obtain ⟨ps, e, b1, b2⟩ := shps h
  refine ⟨.tuple ps, ?_, ?_, ?_⟩
  · unfold toP
    rw [toPs_le (show f + ds.length ≤ f + n by omega) e]; rfl
  · simpa [PyData.canLay0] using b1
  · simp only [PyData.depth]; omega
theorem Shp.lst {S : Sto} {f k n i : Nat} {b : Bool} {ds : List D} (hi : S[i]? = some (.lst b ds)) (h : ∀ d ∈ ds, Shp S f k d) (hn : ds.length ≤ n) : Shp S (f + n + 1) (k + 1) (.ref i) := by
  obtain ⟨ps, e, b1, b2⟩ := shps h
  refine ⟨.list ps, ?_, ?_, ?_⟩
  · unfold toP
    rw [hi]
    simp only
    rw [toPs_le (show f + ds.length ≤ f + n by omega) e]; rfl
  · simpa [PyData.canLay0] using b1
  · simp only [PyData.depth]; omega
/-! ### the pen that is a list, and only new things -/
theorem Gw.ev {S T : Sto} {r : Nat} (h : Gw S T) (hp : Pen S r) : Ev r S T := by
  obtain ⟨a, b, h0, e⟩ := hp
  exact ⟨fun j o _ e => h.kp j o e, ⟨a, b, h0, h.kp _ _ e⟩, h.ln⟩
theorem tie_bp {n : Int} {y : D} (h : isTie n y = true) (hn : n ≤ 8) : BP y := by
  unfold isTie at h
  split at h
  · rename_i i j
    simp only [Bool.and_eq_true, decide_eq_true_eq] at h
    exact ⟨i, j, rfl, by omega, by omega, by omega, by omega⟩
  · cases h
theorem str_dst {ts : List D} (h : Str_ ts) : Dst ts := by
  unfold Dst Str_ at *
  rw [List.nodup_iff_pairwise_ne, List.pairwise_map]
  exact h.imp fun {a b} q e => by rw [e, ltP_irr] at q; cases q
end Dv

/-! ### places that ties lead to one another -/
namespace Df
abbrev Ed := List (Int × Int)
def Adj (E : Ed) (a b : Int) : Prop := (a, b) ∈ E ∨ (b, a) ∈ E
inductive Rch (E : Ed) (a : Int) : Int → Prop
  | refl : Rch E a a
  | step {b c : Int} : Rch E a b → Adj E b c → Rch E a c
theorem Adj.symm {E : Ed} {a b : Int} (h : Adj E a b) : Adj E b a := h.elim .inr .inl
theorem Rch.trans {E : Ed} {a b c : Int} (h : Rch E a b) (k : Rch E b c) : Rch E a c := by
  induction k with
  | refl => exact h
  | step _ s ih => exact .step ih s
theorem Rch.one {E : Ed} {a b : Int} (h : Adj E a b) : Rch E a b := .step .refl h
theorem Rch.symm {E : Ed} {a b : Int} (h : Rch E a b) : Rch E b a := by
  induction h with
  | refl => exact .refl
  | step _ s ih => exact (Rch.one s.symm).trans ih
theorem Rch.mono {E F : Ed} (hs : ∀ e ∈ E, e ∈ F) {a b : Int} (h : Rch E a b) : Rch F a b := by
  induction h with
  | refl => exact .refl
  | step _ s ih => exact .step ih (s.imp (hs _) (hs _))
/-- one tie more -/
theorem rch_more {E : Ed} {x y a b : Int} : Rch (E ++ [(x, y)]) a b ↔ Rch E a b ∨ (Rch E a x ∧ Rch E y b) ∨ (Rch E a y ∧ Rch E x b) := by
  have up : ∀ {c d : Int}, Rch E c d → Rch (E ++ [(x, y)]) c d := fun h => h.mono fun e he => List.mem_append_left _ he
  have ed : Adj (E ++ [(x, y)]) x y := .inl (List.mem_append_right _ (List.mem_singleton.mpr rfl))
  constructor
  · intro h
    induction h with
    | refl => exact .inl .refl
    | @step b c _ s ih =>
      have s' : Adj E b c ∨ (b = x ∧ c = y) ∨ (b = y ∧ c = x) := by
        rcases s with s | s <;> rcases List.mem_append.mp s with s | s
        · exact .inl (.inl s)
        · have e := List.mem_singleton.mp s; cases e; exact .inr (.inl ⟨rfl, rfl⟩)
        · exact .inl (.inr s)
        · have e := List.mem_singleton.mp s; cases e; exact .inr (.inr ⟨rfl, rfl⟩)
      rcases s' with s | ⟨rfl, rfl⟩ | ⟨rfl, rfl⟩
      · rcases ih with h | ⟨h1, h2⟩ | ⟨h1, h2⟩
        · exact .inl (.step h s)
        · exact .inr (.inl ⟨h1, .step h2 s⟩)
        · exact .inr (.inr ⟨h1, .step h2 s⟩)
      · rcases ih with h | ⟨h1, h2⟩ | ⟨h1, h2⟩
        · exact .inr (.inl ⟨h, .refl⟩)
        · exact .inr (.inl ⟨h1, .refl⟩)
        · exact .inl h1
      · rcases ih with h | ⟨h1, h2⟩ | ⟨h1, h2⟩
        · exact .inr (.inr ⟨h, .refl⟩)
        · exact .inl h1
        · exact .inr (.inr ⟨h1, .refl⟩)
  · rintro (h | ⟨h1, h2⟩ | ⟨h1, h2⟩)
    · exact up h
    · exact ((up h1).trans (.one ed)).trans (up h2)
    · exact ((up h1).trans (.one ed.symm)).trans (up h2)
theorem rch_nil {a b : Int} : Rch [] a b ↔ a = b := by
  constructor
  · intro h
    induction h with
    | refl => rfl
    | step _ s _ => rcases s with s | s <;> cases s
  · rintro rfl; exact .refl
/-- marks: the least of each part -/
structure Mk (E : Ed) (n : Nat) (f : Nat → Int) : Prop where
  rg : ∀ i, i < n → 0 ≤ f i ∧ f i < n
  rc : ∀ i, i < n → Rch E (i : Int) (f i)
  lo : ∀ i j, i < n → j < n → Rch E (i : Int) (j : Int) → f i ≤ (j : Int)
theorem Mk.eq {E : Ed} {n : Nat} {f : Nat → Int} (h : Mk E n f) {i j : Nat} (hi : i < n) (hj : j < n) : f i = f j ↔ Rch E (i : Int) (j : Int) := by
  constructor
  · intro e
    have := (h.rc j hj).symm
    rw [← e] at this
    exact (h.rc i hi).trans this
  · intro r
    have a1 := h.rg i hi
    have a2 := h.rg j hj
    have e1 : ((f i).toNat : Int) = f i := Int.toNat_of_nonneg a1.1
    have e2 : ((f j).toNat : Int) = f j := Int.toNat_of_nonneg a2.1
    have l1 := h.lo i (f j).toNat hi (by omega) (by rw [e2]; exact r.trans (h.rc j hj))
    have l2 := h.lo j (f i).toNat hj (by omega) (by rw [e1]; exact r.symm.trans (h.rc i hi))
    omega
theorem mk_nil {n : Nat} : Mk [] n fun i => (i : Int) := ⟨fun i h => by omega, fun i _ => .refl, fun i j _ _ r => by have := rch_nil.mp r; omega⟩
/-- a tie more: the greater mark becomes the lesser one -/
theorem Mk.more {E : Ed} {n : Nat} {f : Nat → Int} (h : Mk E n f) {x y : Nat} (hx : x < n) (hy : y < n) : Mk (E ++ [((x : Int), (y : Int))]) n fun i => if f i = max (f x) (f y) then min (f x) (f y) else f i := by
  have up : ∀ {c d : Int}, Rch E c d → Rch (E ++ [((x : Int), (y : Int))]) c d := fun h => h.mono fun e he => List.mem_append_left _ he
  have ed : Rch (E ++ [((x : Int), (y : Int))]) x y := .one (.inl (List.mem_append_right _ (List.mem_singleton.mpr rfl)))
  have fx := h.rg x hx
  have fy := h.rg y hy
  have xy : Rch (E ++ [((x : Int), (y : Int))]) (f x) (f y) := ((up (h.rc x hx)).symm.trans ed).trans (up (h.rc y hy))
  refine ⟨fun i hi => ?_, fun i hi => ?_, fun i j hi hj r => ?_⟩
  · have := h.rg i hi
    split <;> omega
  · have ri := up (h.rc i hi)
    split
    · rename_i c
      rcases Int.le_total (f x) (f y) with le | le
      · rw [Int.min_eq_left le]
        rw [Int.max_eq_right le] at c
        rw [c] at ri
        exact ri.trans xy.symm
      · rw [Int.min_eq_right le]
        rw [Int.max_eq_left le] at c
        rw [c] at ri
        exact ri.trans xy
    · exact ri
  · have key : f i ≤ (j : Int) ∨ (f i = f x ∧ f y ≤ (j : Int)) ∨ (f i = f y ∧ f x ≤ (j : Int)) := by
      rcases rch_more.mp r with r | ⟨r1, r2⟩ | ⟨r1, r2⟩
      · exact .inl (h.lo i j hi hj r)
      · exact .inr (.inl ⟨(h.eq hi hx).mpr r1, h.lo y j hy hj r2⟩)
      · exact .inr (.inr ⟨(h.eq hi hy).mpr r1, h.lo x j hx hj r2⟩)
    split <;> omega
/-- nodup within another list -/
theorem nd_len {α : Type} [DecidableEq α] : ∀ {l m : List α}, l.Nodup → (∀ x ∈ l, x ∈ m) → l.length ≤ m.length
  | [], _, _, _ => by simp
  | a :: l, m, hn, hs => by
    obtain ⟨h1, h2⟩ := List.nodup_cons.mp hn
    have ha := hs a List.mem_cons_self
    have := nd_len (l := l) (m := m.erase a) h2 fun x hx => by
      have ne : x ≠ a := fun e => h1 (by rw [← e]; exact hx)
      exact (List.mem_erase_of_ne ne).mpr (hs x (List.mem_cons_of_mem _ hx))
    rw [List.length_erase_of_mem ha] at this
    have pos := List.length_pos_of_mem ha
    rw [List.length_cons]; omega
theorem nd_perm {α : Type} [DecidableEq α] : ∀ {l m : List α}, l.Nodup → m.Nodup → (∀ x, x ∈ l ↔ x ∈ m) → l.Perm m
  | [], m, _, _, h => by
    cases m with
    | nil => exact .refl _
    | cons b m => exact absurd ((h b).mpr List.mem_cons_self) (by simp)
  | a :: l, m, hn, hm, h => by
    obtain ⟨h1, h2⟩ := List.nodup_cons.mp hn
    have ha := (h a).mp List.mem_cons_self
    refine (List.Perm.cons a (nd_perm (l := l) (m := m.erase a) h2 (hm.erase a) fun x => ?_)).trans (List.perm_cons_erase ha).symm
    by_cases e : x = a
    · subst e
      exact ⟨fun z => absurd z h1, fun z => absurd z (by rw [hm.mem_erase_iff]; simp)⟩
    · rw [List.mem_erase_of_ne e, ← h x, List.mem_cons]
      exact ⟨fun z => .inr z, fun z => z.resolve_left e⟩
/-- a way, without a place twice -/
inductive Pth (E : Ed) (s : Int) : Int → List Int → Prop
  | nil : Pth E s s [s]
  | snoc {b c : Int} {p : List Int} : Pth E s b p → Adj E b c → c ∉ p → Pth E s c (p ++ [c])
theorem Pth.nd {E : Ed} {s k : Int} {p : List Int} (h : Pth E s k p) : p.Nodup := by
  induction h with
  | nil => simp
  | snoc h a n ih => exact List.nodup_append.mpr ⟨ih, by simp, fun x hx y hy e => n (by rw [← List.mem_singleton.mp hy, ← e]; exact hx)⟩
theorem Pth.pos {E : Ed} {s k : Int} {p : List Int} (h : Pth E s k p) : 1 ≤ p.length := by
  cases h <;> simp
/-- along a way the sides change -/
theorem Pth.par {E : Ed} {s k : Int} {p : List Int} {c : Int → Int} (hc : ∀ x, c x = 0 ∨ c x = 1) (he : ∀ a b, Adj E a b → c a ≠ c b) (h : Pth E s k p) : c k = (c s + (p.length - 1 : Int)) % 2 := by
  induction h with
  | nil => rcases hc s with h | h <;> simp [h]
  | @snoc b d p h a n ih =>
    have h1 := he b d a
    rw [List.length_append, List.length_singleton]
    rcases hc b with hb | hb <;> rcases hc d with hd | hd <;> omega
end Df

namespace Dv
open PySem PySem.Spec PyProof.Rows L2 Df
/-! ### while -/
theorem wh_inv {c : Dv.Env → Sto → R Bool} {body : Dv.Env → Sto → R Fl} {Q : Fl → Sto → Prop} {W : Nat → Sto → Prop} (I : Nat → Dv.Env → Sto → Prop)
    (h : ∀ k ρ S, I k ρ S → ∃ b, c ρ S = .ok b S ∧ (b = true → ∃ j, j < k ∧ (body ρ S).wp (forQ (I j) Q) noX) ∧ (b = false → Q (.nx ρ) S)) : ∀ n k ρ S, k < n → I k ρ S → (whGo c body n ρ S).wp Q W
  | 0, k, _, _, hk, _ => by omega
  | n + 1, k, ρ, S, hk, hI => by
    obtain ⟨b, e, h1, h2⟩ := h k ρ S hI
    unfold whGo
    rw [e]
    cases b with
    | false => exact h2 rfl
    | true =>
      obtain ⟨j, hj, hb⟩ := h1 rfl
      simp only [R.bindS_ok, if_true]
      refine R.wp_bind.mpr (R.to hb fun f S2 hf => ?_)
      cases f with
      | nx ρ2 => exact wh_inv I h n j ρ2 S2 (by omega) hf
      | ct ρ2 => exact wh_inv I h n j ρ2 S2 (by omega) hf
      | bk ρ2 => exact hf
      | rt d => exact hf
      | xc c ρ2 => exact hf
@[simp] theorem ev_while {n : Nat} {c : DenT} {b : DenS} {lv : Lv} {ρ : Dv.Env} {S : Sto} : sWhile n c b lv ρ S = whGo (c lv) (b lv) n ρ S := id rfl
/-! ### near -/
def nearL : Ed → Int → List Int
  | [], _ => []
  | (a, b) :: E, p => ((if a = p then [b] else []) ++ (if b = p then [a] else [])) ++ nearL E p
theorem near_mem {p o : Int} : ∀ {E : Ed}, o ∈ nearL E p ↔ Adj E p o
  | [] => by simp [nearL, Adj]
  | (a, b) :: E => by
    unfold nearL
    rw [List.mem_append, List.mem_append, near_mem]
    unfold Adj
    simp only [List.mem_cons, Prod.mk.injEq]
    constructor
    · rintro ((h | h) | h)
      · split at h
        · rename_i e; subst e; rw [List.mem_singleton.mp h]; exact .inl (.inl ⟨rfl, rfl⟩)
        · cases h
      · split at h
        · rename_i e; subst e; rw [List.mem_singleton.mp h]; exact .inr (.inl ⟨rfl, rfl⟩)
        · cases h
      · exact h.imp .inr .inr
    · rintro ((⟨rfl, rfl⟩ | h) | (⟨rfl, rfl⟩ | h))
      · exact .inl (.inl (by simp))
      · exact .inr (.inl h)
      · exact .inl (.inr (by simp))
      · exact .inr (.inr h)
theorem near_len : ∀ {E : Ed} {p : Int}, (nearL E p).length ≤ 2 * E.length
  | [], _ => by simp [nearL]
  | (a, b) :: E, p => by
    unfold nearL
    have := near_len (E := E) (p := p)
    rw [List.length_append, List.length_append, List.length_cons]
    split <;> split <;> simp <;> omega
noncomputable def nearF : DenS := (sSeq (sAsg (.nm 2) (dLst dNil))
    (sSeq (sFor (iVal (dVar 0)) (.tp [3, 4]) (sSeq (sIf (dBl (dOp eqD (dVar 3) (dVar 1))) (sExpr (dMt appendD (dVar 2) (dCons (dVar 4) dNil))) sNil)
    (sIf (dBl (dOp eqD (dVar 4) (dVar 1))) (sExpr (dMt appendD (dVar 2) (dCons (dVar 3) dNil))) sNil)))
    (sRet (dVar 2))))
/-- a web: a tuple or a list of ties -/
def WebS (S : Sto) (wd : D) (ys : List D) : Prop := wd = .tup ys ∨ ∃ l b, wd = .ref l ∧ S[l]? = some (.lst b ys)
theorem WebS.up {S T : Sto} {wd : D} {ys : List D} (h : WebS S wd ys) (g : Gw S T) : WebS T wd ys := by
  rcases h with h | ⟨l, b, h1, h2⟩
  · exact .inl h
  · exact .inr ⟨l, b, h1, g.kp _ _ h2⟩
theorem WebS.src {S : Sto} {wd : D} {ys : List D} (h : WebS S wd ys) : ∃ src, (∀ T, Gw S T → valR wd T = .ok src T) ∧ src.items = ys ∧ ∀ T, Gw S T → src.chk T := by
  rcases h with rfl | ⟨l, b, rfl, h2⟩
  · exact ⟨_, fun _ _ => rfl, rfl, fun _ _ => trivial⟩
  · exact ⟨.lst l b ys, fun T g => by simp [g.kp _ _ h2], rfl, fun T g => g.kp _ _ h2⟩
def nrJ (S : Sto) (wd : D) (ys : List D) (p : Int) (xs : List D) (ρ : Dv.Env) (T : Sto) : Prop := ∃ l o3 o4 done, ρ = [some wd, some (.int p), some (.ref l), o3, o4] ∧ T[l]? = some (.lst true (done.map D.int)) ∧ S.length ≤ l ∧ Gw S T ∧ done ++ nearL (xs.map keyD) p = nearL (ys.map keyD) p ∧ AllB xs ∧ done.length + 2 * xs.length ≤ 2 * ys.length
def nrP (S : Sto) (ys : List D) (p : Int) (d : D) (T : Sto) : Prop := ∃ l, d = .ref l ∧ S.length ≤ l ∧ T[l]? = some (.lst true ((nearL (ys.map keyD) p).map D.int)) ∧ Gw S T
section
variable {bs : Bodies} {m i : Nat} {S : Sto}
theorem near_ok {wd : D} {ys : List D} {p : Int} (hN : bs[i]? = some (nearF, 5)) (hm : 2 ≤ m) (hw : WebS S wd ys) (hy : AllB ys) (hl : ys.length ≤ 100) : (Phi bs m 0 i [wd, .int p] S).wp (nrP S ys p) noX := by
  refine wpP hm hN ?_
  obtain ⟨src, hs, hi, hc⟩ := hw.src
  simp [nearF, mx, hs _ (Gw.app _)]
  rw [hi]
  refine for_inv (nrJ S wd ys p) ?_ ?_ _ _ _ ?_
  · rintro x xs ρ T ⟨l, o3, o4, done, rfl, hT, ll, gw, e, ab, bd⟩
    obtain ⟨a, b, rfl, _⟩ := ab x List.mem_cons_self
    have ab' : AllB xs := fun y hy => ab y (List.mem_cons_of_mem _ hy)
    have ltl := (List.getElem?_eq_some_iff.mp hT).1
    rw [List.length_cons] at bd
    refine ⟨hc _ gw, _, tg_tp2, ?_⟩
    have e' : done ++ (((if a = p then [b] else []) ++ (if b = p then [a] else [])) ++ nearL (xs.map keyD) p) = nearL (ys.map keyD) p := e
    have s1 : ∀ o, (T.set l o)[l]? = some o := fun o => List.getElem?_set_self ltl
    by_cases c1 : a = p
    · by_cases c2 : b = p
      · simp [c1, c2] at e'
        simp [c1, c2, hT, mx, s1]
        exact ⟨by omega, by omega, l, _, _, done ++ [p, p], rfl, by simp [s1], ll, gw.put ll, by simpa using e', ab', by simp; omega⟩
      · simp [c1, c2] at e'
        simp [c1, c2, hT, mx]
        exact ⟨by omega, l, _, _, done ++ [b], rfl, by simp [s1], ll, gw.put ll, by simpa using e', ab', by simp; omega⟩
    · by_cases c2 : b = p
      · simp [c1, c2] at e'
        simp [c1, c2, hT, mx]
        exact ⟨by omega, l, _, _, done ++ [a], rfl, by simp [s1], ll, gw.put ll, by simpa using e', ab', by simp; omega⟩
      · simp [c1, c2] at e'
        simp [c1, c2]
        exact ⟨l, _, _, done, rfl, hT, ll, gw, e', ab', by omega⟩
  · rintro ρ T ⟨l, o3, o4, done, rfl, hT, ll, gw, e, ab, bd⟩
    refine ⟨hc _ gw, ?_⟩
    simp [nearL] at e
    simp
    exact ⟨l, rfl, ll, by rw [hT, e], gw⟩
  · exact ⟨S.length, none, none, [], rfl, by simp, Nat.le_refl _, Gw.app _, rfl, hy, by simp⟩
end
/-! ### dicts -/
section
variable {T : Sto} {dl : Nat} {kvs : List (L2.Key × D)}
theorem dk_is (h : T[dl]? = some (.dk kvs)) : dkD (.ref dl) T = some kvs := by
  simp only [dkD, h]
theorem nin_dk {o : Int} (h : T[dl]? = some (.dk kvs)) : ninD (.int o) (.ref dl) T = .ok (.bl (!(valK kvs (.inl o)).isSome)) T := by
  unfold ninD inB
  rw [dk_is h]
  rfl
theorem ix_dk {o : Int} (h : T[dl]? = some (.dk kvs)) : ixA (.ref dl) (.int o) T = optR (valK kvs (.inl o)) T := by
  unfold ixA getKD
  rw [dk_is h]
  simp only [Option.isSome_some, if_true, kyD]
  cases valK kvs (.inl o) <;> rfl
theorem set_dk {o : Int} {v : D} (h : T[dl]? = some (.dk kvs)) (hl : kvs.length ≤ mx) : setA (.ref dl) (.int o) v T = .ok () (T.set dl (.dk (setK kvs (.inl o) v))) := by
  unfold setA putKD
  rw [dk_is h]
  simp only [Option.isSome_some, if_true, kyD, h]
  rw [if_pos hl]
theorem ix_li {i : Nat} {b : Bool} {xs : List D} {k : Int} (h : T[i]? = some (.lst b xs)) : ixA (.ref i) (.int k) T = ixD (.ref i) (.int k) T := by
  unfold ixA dkD
  simp [h]
end
theorem val_in {k : L2.Key} : ∀ {kvs : List (L2.Key × D)}, k ∈ kvs.map (·.1) → ∃ v, valK kvs k = some v ∧ (k, v) ∈ kvs
  | [], h => by simp at h
  | (k1, v1) :: r, h => by
    by_cases c : k1 = k
    · subst c
      exact ⟨v1, by simp [valK], List.mem_cons_self⟩
    · rw [List.map_cons, List.mem_cons] at h
      obtain ⟨v, e, hm⟩ := val_in (h.resolve_left fun z => c z.symm)
      exact ⟨v, by simpa [valK, c] using e, List.mem_cons_of_mem _ hm⟩
theorem val_out {k : L2.Key} {kvs : List (L2.Key × D)} (h : k ∉ kvs.map (·.1)) : valK kvs k = none ∧ ∀ v, setK kvs k v = kvs ++ [(k, v)] := by
  have e : (kvs.any fun q => decide (q.1 = k)) = false := by
    rw [List.any_eq_false]
    intro q hq z
    exact h (List.mem_map.mpr ⟨q, hq, of_decide_eq_true z⟩)
  refine ⟨?_, fun v => ?_⟩
  · unfold valK
    rw [List.find?_eq_none.mpr fun q hq z => h (List.mem_map.mpr ⟨q, hq, of_decide_eq_true z⟩)]
    rfl
  · unfold setK
    rw [e]
    simp
end Dv

namespace Dv
open PySem PySem.Spec PyProof.Rows L2 Df
noncomputable def wyB2 : DenS := (sIf (dBl (dOp ninD (dVar 5) (dVar 2))) (sSeq (sSubW setA (dVar 2) (dVar 5) (dOp addD (dOp ixA (dVar 2) (dVar 4)) (dLst (dCons (dVar 5) dNil))))
    (sExpr (dMt appendD (dVar 3) (dCons (dVar 5) dNil)))) sNil)
noncomputable def wyB1 (iN : Nat) : DenS := (sSeq (sAsg (.nm 4) (dMt popAtD (dVar 3) (dCons (dC (.int 0)) dNil)))
    (sFor (iVal (dCallF iN 2 (dCons (dVar 0) (dCons (dVar 4) dNil)))) (.nm 5) wyB2))
noncomputable def waysF (iN : Nat) : DenS := (sSeq (sAsg (.nm 2) (dDisp (pCons (dVar 1) (dLst (dCons (dVar 1) dNil)) pNil)))
    (sSeq (sAsg (.nm 3) (dLst (dCons (dVar 1) dNil)))
    (sSeq (sWhile 100000 (dTru (dVar 3)) (wyB1 iN))
    (sRet (dVar 2)))))
/-- how far the search is: i keys are done -/
structure WS (S : Sto) (dl wl : Nat) (E : Ed) (n : Nat) (s : Int) (i : Nat) (kvs : List (L2.Key × D)) (ks : List Int) (T : Sto) : Prop where
  hd : T[dl]? = some (.dk kvs)
  hw : T[wl]? = some (.lst true ((ks.drop i).map D.int))
  hk : kvs.map (·.1) = ks.map Sum.inl
  hv : ∀ q ∈ kvs, ∃ (r : Nat) (p : List Int), q.2 = .ref r ∧ T[r]? = some (.lst true (p.map D.int)) ∧ p.length ≤ kvs.length ∧ r ≠ wl ∧ S.length ≤ r ∧ (∃ k, q.1 = .inl k ∧ Pth E s k p) ∧ ∀ z ∈ p, z ∈ ks
  nd : ks.Nodup
  rc : ∀ k ∈ ks, Rch E s k ∧ 0 ≤ k ∧ k < n
  st : s ∈ ks
  gw : Gw S T
  ld : S.length ≤ dl
  lw : S.length ≤ wl
  ne : dl ≠ wl
theorem WS.len {S : Sto} {dl wl : Nat} {E : Ed} {n : Nat} {s : Int} {i : Nat} {kvs : List (L2.Key × D)} {ks : List Int} {T : Sto} (h : WS S dl wl E n s i kvs ks T) : ks.length ≤ n ∧ kvs.length = ks.length := by
  refine ⟨?_, by simpa using congrArg List.length h.hk⟩
  have := nd_len (l := ks) (m := (List.range n).map fun (k : Nat) => (k : Int)) h.nd fun x hx => by
    have := (h.rc x hx).2
    exact List.mem_map.mpr ⟨x.toNat, List.mem_range.mpr (by omega), by omega⟩
  simpa using this
theorem key_in {kvs : List (L2.Key × D)} {ks : List Int} {k : Int} (hk : kvs.map (·.1) = ks.map Sum.inl) : (Sum.inl k : L2.Key) ∈ kvs.map (·.1) ↔ k ∈ ks := by
  rw [hk, List.mem_map]
  exact ⟨fun ⟨x, hx, e⟩ => by cases e; exact hx, fun h => ⟨k, h, rfl⟩⟩
/-- within the inner loop: the next key p is taken, of what is near it those ahead are done -/
def wyJ2 (S : Sto) (dl wl : Nat) (wd : D) (ys : List D) (n : Nat) (s : Int) (i : Nat) (p : Int) (nl : Nat) (os : List D) (ρ : Dv.Env) (T : Sto) : Prop := ∃ (kvs : List (L2.Key × D)) (ks : List Int) (o5 : Option D) (qs : List Int), ρ = [some wd, some (.int s), some (.ref dl), some (.ref wl), some (.int p), o5] ∧ WS S dl wl (ys.map keyD) n s (i + 1) kvs ks T ∧
  ks[i]? = some p ∧ (∀ j, j < i → ∀ k, ks[j]? = some k → ∀ o, Adj (ys.map keyD) k o → o ∈ ks) ∧ os = qs.map D.int ∧ (∀ o ∈ nearL (ys.map keyD) p, o ∈ ks ∨ o ∈ qs) ∧ (∀ o ∈ qs, o ∈ nearL (ys.map keyD) p) ∧ T[nl]? = some (.lst true ((nearL (ys.map keyD) p).map D.int)) ∧ nl ≠ dl ∧ nl ≠ wl
def wyJ1 (S : Sto) (dl wl : Nat) (wd : D) (ys : List D) (n : Nat) (s : Int) (fu : Nat) (ρ : Dv.Env) (T : Sto) : Prop := ∃ (i : Nat) (kvs : List (L2.Key × D)) (ks : List Int) (o4 o5 : Option D), ρ = [some wd, some (.int s), some (.ref dl), some (.ref wl), o4, o5] ∧ WS S dl wl (ys.map keyD) n s i kvs ks T ∧ fu + i = n ∧ i ≤ ks.length ∧ ∀ j, j < i → ∀ k, ks[j]? = some k → ∀ o, Adj (ys.map keyD) k o → o ∈ ks
/-- ties of places below n -/
def InN (n : Nat) (ys : List D) : Prop := ∀ y ∈ ys, ∃ a b : Nat, y = .tup [.int (a : Int), .int (b : Int)] ∧ a < n ∧ b < n
section
variable {bs : Bodies} {m iN : Nat} {S : Sto} {ys : List D} {n : Nat} {s : Int} {dl wl : Nat}
theorem adj_in (h : InN n ys) {p o : Int} (ha : Adj (ys.map keyD) p o) : 0 ≤ o ∧ o < n := by
  rcases ha with z | z <;> obtain ⟨y, hy, e⟩ := List.mem_map.mp z <;> obtain ⟨a, b, rfl, h1, h2⟩ := h y hy <;> (have e : ((a : Int), (b : Int)) = _ := e; cases e) <;> omega
theorem wy2_ok {wd : D} (hy : InN n ys) (hn : n ≤ 20) {i nl : Nat} {p : Int} {x : D} {os : List D} {ρ : Dv.Env} {T : Sto} (h : wyJ2 S dl wl wd ys n s i p nl (x :: os) ρ T) {Q : Fl → Sto → Prop} :
    ∃ ρ1, tgD (.nm 5) x ρ = some ρ1 ∧ (wyB2 (Phi bs m) ρ1 T).wp (forQ (wyJ2 S dl wl wd ys n s i p nl os) Q) noX := by
  obtain ⟨kvs, ks, o5, qs, rfl, ws, hp, cl, eo, hb, hq, hnl, n1, n2⟩ := h
  obtain ⟨lk, lkv⟩ := ws.len
  cases qs with
  | nil => simp at eo
  | cons o qs =>
    rw [List.map_cons] at eo
    cases eo
    refine ⟨_, rfl, ?_⟩
    have ha : Adj (ys.map keyD) p o := near_mem.mp (hq o List.mem_cons_self)
    have hq' : ∀ z ∈ qs, z ∈ nearL (ys.map keyD) p := fun z hz => hq z (List.mem_cons_of_mem _ hz)
    by_cases c : o ∈ ks
    · obtain ⟨v, e, _⟩ := val_in ((key_in ws.hk).mpr c)
      simp [wyB2, nin_dk ws.hd, e]
      refine ⟨kvs, ks, _, qs, rfl, ws, hp, cl, rfl, fun z hz => ?_, hq', hnl, n1, n2⟩
      rcases hb z hz with h | h
      · exact .inl h
      · rcases List.mem_cons.mp h with rfl | h
        · exact .inl c
        · exact .inr h
    · obtain ⟨e, es⟩ := val_out (fun z => c ((key_in ws.hk).mp z))
      have pk : p ∈ ks := List.mem_of_getElem? hp
      obtain ⟨v, ev, vm⟩ := val_in ((key_in ws.hk).mpr pk)
      obtain ⟨r, xs, ervs, hr, hxl, rw_, hSr, ⟨pk', epk, hpt⟩, hxk⟩ := ws.hv _ vm
      cases epk
      have ervs : v = .ref r := ervs
      subst ervs
      have ltr := (List.getElem?_eq_some_iff.mp hr).1
      have ltw := (List.getElem?_eq_some_iff.mp ws.hw).1
      have ltd := (List.getElem?_eq_some_iff.mp ws.hd).1
      have ltn := (List.getElem?_eq_some_iff.mp hnl).1
      have rd : r ≠ dl := fun z => by rw [z, ws.hd] at hr; cases hr
      have kx : ∀ (V : Sto) {j : Nat} {o : O}, T[j]? = some o → (T ++ V)[j]? = some o := fun V {j o} e => by rw [List.getElem?_append_left (List.getElem?_eq_some_iff.mp e).1]; exact e
      have sd := fun (V : Sto) v (hl : kvs.length ≤ mx) => set_dk (T := T ++ V) (o := o) (v := v) (kx V ws.hd) hl
      simp [wyB2, nin_dk ws.hd, e, ix_dk ws.hd, ev, kx _ hr, mx]
      rw [sd _ _ (by simp; omega), es]
      have wn : wl ≠ dl := Ne.symm ws.ne
      simp [List.getElem?_set_ne ws.ne, kx _ ws.hw, mx]
      have il : i < ks.length := (List.getElem?_eq_some_iff.mp hp).1
      have gl : ∀ {j : Nat} {o' : O}, T[j]? = some o' → j ≠ dl → j ≠ wl → ((List.set (T ++ [O.lst true [D.int o], O.lst true (List.map D.int xs ++ [D.int o])]) dl (O.dk (kvs ++ [(Sum.inl o, D.ref (List.length T + 1))]))).set wl (O.lst true (List.drop (i + 1) (List.map D.int ks) ++ [D.int o])))[j]? = some o' := fun {j o'} e h1 h2 => by
        rw [List.getElem?_set_ne (Ne.symm h2), List.getElem?_set_ne (Ne.symm h1)]; exact kx _ e
      refine ⟨by omega, by omega, kvs ++ [(Sum.inl o, D.ref (T.length + 1))], ks ++ [o], _, qs, rfl, ⟨?_, ?_, ?_, ?_, ?_, ?_, ?_, ?_, ws.ld, ws.lw, ws.ne⟩, ?_, ?_, rfl, ?_, hq', gl hnl n1 n2, n1, n2⟩
      · rw [List.getElem?_set_ne wn, List.getElem?_set_self (by simp; omega)]
      · rw [List.getElem?_set_self (by simp; omega), List.drop_append_of_le_length (by omega), List.map_append, List.map_drop]
        rfl
      · rw [List.map_append, List.map_append, ws.hk]
        rfl
      · intro q hq2
        rcases List.mem_append.mp hq2 with z | z
        · obtain ⟨r2, x2, e1, e2, e3, e4, e5, e6, e7⟩ := ws.hv q z
          have r2d : r2 ≠ dl := fun z => by rw [z, ws.hd] at e2; cases e2
          exact ⟨r2, x2, e1, gl e2 r2d e4, by simp; omega, e4, e5, e6, fun z hz => List.mem_append_left _ (e7 z hz)⟩
        · rw [List.mem_singleton.mp z]
          refine ⟨T.length + 1, xs ++ [o], rfl, ?_, by simp; omega, by omega, by have := ws.gw.ln; omega, ⟨o, rfl, .snoc hpt ha fun z => c (hxk o z)⟩, fun z hz => ?_⟩
          · rw [List.getElem?_set_ne (by omega), List.getElem?_set_ne (by omega)]
            simp
          · rcases List.mem_append.mp hz with z1 | z1
            · exact List.mem_append_left _ (hxk z z1)
            · exact List.mem_append_right _ z1
      · rw [List.nodup_append]
        exact ⟨ws.nd, by simp, fun x hx y hy e => c (by rw [← List.mem_singleton.mp hy, ← e]; exact hx)⟩
      · intro k hk2
        rcases List.mem_append.mp hk2 with z | z
        · exact ws.rc k z
        · rw [List.mem_singleton.mp z]
          exact ⟨.step (ws.rc p pk).1 ha, adj_in hy ha⟩
      · exact List.mem_append_left _ ws.st
      · exact ((ws.gw.trans (Gw.app _)).put ws.ld).put ws.lw
      · rw [List.getElem?_append_left il]; exact hp
      · intro j hj k hk2 o2 ho2
        rw [List.getElem?_append_left (by omega)] at hk2
        exact List.mem_append_left _ (cl j hj k hk2 o2 ho2)
      · intro z hz
        rcases hb z hz with h | h
        · exact .inl (List.mem_append_left _ h)
        · rcases List.mem_cons.mp h with rfl | h
          · exact .inl (List.mem_append_right _ (List.mem_singleton.mpr rfl))
          · exact .inr h
theorem tru_l {T : Sto} {i : Nat} {b c : Bool} {xs : List D} (h : T[i]? = some (.lst b xs)) (hc : c = decide (xs ≠ [])) : truD (.ref i) T = some c := by
  subst hc
  unfold truD
  simp only [h]
  cases xs <;> rfl
/-- what is told -/
def wyP (S : Sto) (ys : List D) (n : Nat) (s : Int) (d : D) (T : Sto) : Prop := ∃ (dl : Nat) (kvs : List (L2.Key × D)) (ks : List Int), d = .ref dl ∧ S.length ≤ dl ∧ T[dl]? = some (.dk kvs) ∧ kvs.map (·.1) = ks.map Sum.inl ∧ ks.Nodup ∧ ks.length ≤ n ∧ Gw S T ∧ (∀ k, k ∈ ks ↔ Rch (ys.map keyD) s k) ∧ ∀ q ∈ kvs, ∃ (r : Nat) (p : List Int), q.2 = .ref r ∧ T[r]? = some (.lst true (p.map D.int)) ∧ p.length ≤ n ∧ S.length ≤ r ∧ ∃ k, q.1 = .inl k ∧ Pth (ys.map keyD) s k p
theorem inn_b (h : InN n ys) (hn : n ≤ 8) : AllB ys := fun y hy => by
  obtain ⟨a, b, rfl, h1, h2⟩ := h y hy
  exact ⟨_, _, rfl, by omega, by omega, by omega, by omega⟩
theorem ways_ok {i : Nat} (hN : bs[iN]? = some (nearF, 5)) (hW : bs[i]? = some (waysF iN, 6)) (hm : 3 ≤ m) {wd : D} (hwd : WebS S wd ys) (hy : InN n ys) (hn : n ≤ 8) (hl : ys.length ≤ 100) (hs : 0 ≤ s ∧ s < n) : (Phi bs m 0 i [wd, .int s] S).wp (wyP S ys n s) noX := by
  refine wpP (by omega) hW ?_
  simp [waysF, mx, mergeD, setK]
  refine wh_inv (wyJ1 S S.length (S.length + 2) wd ys n s) ?_ 100000 n _ _ (by omega) ?_
  · rintro fu ρ T ⟨i, kvs, ks, o4, o5, rfl, ws, ef, il, cl⟩
    obtain ⟨lk, lkv⟩ := ws.len
    refine ⟨decide (i < ks.length), ?_, fun hb => ?_, fun hb => ?_⟩
    · have et : truD (.ref (S.length + 2)) T = some (decide (i < ks.length)) := tru_l ws.hw (by simp)
      simp [et]
    · have hi : i < ks.length := of_decide_eq_true hb
      refine ⟨fu - 1, by omega, ?_⟩
      unfold wyB1
      have ltw := (List.getElem?_eq_some_iff.mp ws.hw).1
      have hw : T[S.length + 2]? = some (.lst true (D.int ks[i] :: (ks.drop (i + 1)).map D.int)) := by rw [ws.hw, List.drop_eq_getElem_cons hi]; rfl
      simp [hw]
      rw [popO_in (by omega) (by simp) (by simp; omega)]
      simp
      have ne : S.length ≠ S.length + 2 := by omega
      have w1 : WS S S.length (S.length + 2) (ys.map keyD) n s (i + 1) kvs ks (T.set (S.length + 2) (.lst true ((ks.drop (i + 1)).map D.int))) := by
        refine ⟨?_, List.getElem?_set_self ltw, ws.hk, fun q hq => ?_, ws.nd, ws.rc, ws.st, ws.gw.put ws.lw, ws.ld, ws.lw, ws.ne⟩
        · rw [List.getElem?_set_ne (Ne.symm ne)]; exact ws.hd
        · obtain ⟨r, xs, e1, e2, e3, e4, e5⟩ := ws.hv q hq
          exact ⟨r, xs, e1, by rw [List.getElem?_set_ne (Ne.symm e4)]; exact e2, e3, e4, e5⟩
      refine R.to (near_ok hN (by omega) (hwd.up (ws.gw.put ws.lw)) (inn_b hy hn) hl) ?_
      rintro d V ⟨nl, rfl, ln, hnl, g2⟩
      rw [← List.map_drop] at g2
      have w2 : WS S S.length (S.length + 2) (ys.map keyD) n s (i + 1) kvs ks V := by
        refine ⟨g2.kp _ _ w1.hd, g2.kp _ _ w1.hw, w1.hk, fun q hq => ?_, w1.nd, w1.rc, w1.st, w1.gw.trans g2, w1.ld, w1.lw, w1.ne⟩
        obtain ⟨r, xs, e1, e2, e3, e4, e5⟩ := w1.hv q hq
        exact ⟨r, xs, e1, g2.kp _ _ e2, e3, e4, e5⟩
      simp at ln
      have l1 := (List.getElem?_eq_some_iff.mp ws.hd).1
      simp [hnl]
      refine for_inv (wyJ2 S S.length (S.length + 2) wd ys n s i ks[i] nl) ?_ ?_ _ _ _ ?_
      · intro x xs ρ T2 h2
        obtain ⟨ρ1, e1, e2⟩ := wy2_ok (bs := bs) (m := m - 1) hy (by omega) h2 (Q := _)
        refine ⟨?_, ρ1, e1, e2⟩
        obtain ⟨_, _, _, _, _, _, _, _, _, _, _, h9, _⟩ := h2
        exact h9
      · rintro ρ T2 ⟨kvs2, ks2, p5, qs, rfl, w3, hp, cl2, eo, hb2, hq2, hnl2, n1, n2⟩
        refine ⟨hnl2, ?_⟩
        have q0 : qs = [] := by simpa using eo.symm
        subst q0
        have il2 : i < ks2.length := (List.getElem?_eq_some_iff.mp hp).1
        simp
        refine ⟨i + 1, kvs2, ks2, _, _, rfl, w3, by omega, by omega, fun j hj k hk o ho => ?_⟩
        by_cases c : j = i
        · subst c
          rw [hp] at hk
          cases hk
          exact (hb2 o (near_mem.mpr ho)).resolve_right (by simp)
        · exact cl2 j (by omega) k hk o ho
      · exact ⟨kvs, ks, _, nearL (ys.map keyD) ks[i], rfl, w2, List.getElem?_eq_getElem hi, cl, rfl, fun o ho => .inr ho, fun o ho => ho, hnl, by omega, by omega⟩
    · have hi : ¬ i < ks.length := of_decide_eq_false hb
      simp
      refine ⟨S.length, kvs, ks, rfl, Nat.le_refl _, ws.hd, ws.hk, ws.nd, lk, ws.gw, fun k => ⟨fun h => (ws.rc k h).1, fun h => ?_⟩, fun q hq => ?_⟩
      rotate_left
      · obtain ⟨r, p, e1, e2, e3, e4, e5, e6, e7⟩ := ws.hv q hq
        exact ⟨r, p, e1, e2, by omega, e5, e6⟩
      induction h with
      | refl => exact ws.st
      | step _ a ih =>
        obtain ⟨j, hj⟩ := List.getElem?_of_mem ih
        have := (List.getElem?_eq_some_iff.mp hj).1
        exact cl j (by omega) _ hj _ a
  · refine ⟨0, [(Sum.inl s, D.ref (S.length + 1))], [s], none, none, rfl, ⟨by simp, by simp, rfl, fun q hq => ?_, by simp, fun k hk => ?_, by simp, Gw.app _, Nat.le_refl _, by omega, by omega⟩, by omega, by simp, fun j hj => by omega⟩
    · rw [List.mem_singleton.mp hq]
      exact ⟨S.length + 1, [s], rfl, by simp, by simp, by omega, by omega, ⟨s, rfl, .nil⟩, fun z hz => hz⟩
    · rw [List.mem_singleton.mp hk]
      exact ⟨.refl, hs⟩
end
end Dv

namespace Dv
open PySem PySem.Spec PyProof.Rows L2 Df
theorem ab_any {chk : Sto → Prop} {t : Tg} {cond : Dv.Env → Sto → R Bool} {elt : Dv.Env → Sto → R D} {ρ : Dv.Env} {S : Sto} {p : D → Bool} (hc : chk S) : ∀ {xs : List D}, (∀ x ∈ xs, ∃ ρ1, tgD t x ρ = some ρ1 ∧ cond ρ1 S = .ok true S ∧ elt ρ1 S = .ok (.bl (p x)) S) →
    abGo true chk t cond elt ρ xs S = .ok (.bl (xs.any p)) S
  | [], _ => by
    unfold abGo
    rw [if_pos hc]
    rfl
  | x :: xs, h => by
    obtain ⟨ρ1, h1, h2, h3⟩ := h x List.mem_cons_self
    unfold abGo
    rw [if_pos hc]
    simp only [h1, h2, h3, quiet_ok, R.bind_ok, if_true]
    rw [List.any_cons]
    cases hp : p x with
    | true => rfl
    | false =>
      rw [if_neg (by decide), Bool.false_or]
      exact ab_any hc fun y hy => h y (List.mem_cons_of_mem _ hy)
/-! ### lists of whole numbers -/
theorem toPs_int {S : Sto} : ∀ {c : List Int} {n : Nat}, toPs S (n + 1 + c.length) (c.map D.int) = some (c.map PyData.int)
  | [], n => by simp [toPs]
  | a :: c, n => by
    rw [List.length_cons, show n + 1 + (c.length + 1) = (n + 1 + c.length) + 1 from by omega, List.map_cons]
    unfold toPs
    rw [toPs_int, show n + 1 + c.length = (n + c.length) + 1 from by omega]
    rfl
theorem toP_int {S : Sto} {r : Nat} {b : Bool} {c : List Int} {n : Nat} (h : S[r]? = some (.lst b (c.map D.int))) : toP S (n + 2 + c.length) (.ref r) = some (.list (c.map PyData.int)) := by
  rw [show n + 2 + c.length = (n + 1 + c.length) + 1 from by omega]
  unfold toP
  rw [h]
  simp only
  rw [toPs_int]; rfl
theorem lay_int : ∀ (c : List Int), PyData.canLayAll0 (c.map PyData.int) = true ∧ PyData.depthAll (c.map PyData.int) = 0
  | [] => by simp [PyData.canLayAll0, PyData.depthAll]
  | a :: c => by
    obtain ⟨h1, h2⟩ := lay_int c
    simp [PyData.canLayAll0, PyData.depthAll, PyData.canLay0, PyData.depth, h1, h2]
theorem shp_int (c : List Int) : SeqAt.shaped (.list (c.map PyData.int)) = true := by
  obtain ⟨h1, h2⟩ := lay_int c
  simp [SeqAt.shaped, PyData.canLay0, PyData.depth, h1, h2]
theorem in_int {S : Sto} {r : Nat} {b : Bool} {c : List Int} {p : Int} (h : S[r]? = some (.lst b (c.map D.int))) (hl : c.length ≤ 900) : inD (.int p) (.ref r) S = .ok (.bl (decide (p ∈ c))) S := by
  have e1 : toP S 1000 (.int p) = some (.int p) := rfl
  have e2 : toP S 1000 (.ref r) = some (.list (c.map PyData.int)) := by
    have := toP_int (n := 998 - c.length) h
    rw [show 998 - c.length + 2 + c.length = 1000 from by omega] at this
    exact this
  have ed : dkD (.ref r) S = none := by simp only [dkD, h]
  have sp : SeqAt.shaped (.int p) = true := by simp [SeqAt.shaped, PyData.canLay0, PyData.depth]
  have ea : ((c.map PyData.int).any fun z => PyData.eqv z (.int p)) = decide (p ∈ c) := by
    rw [List.any_map]
    have : ((fun z => PyData.eqv z (.int p)) ∘ PyData.int) = fun z => z == p := by funext z; simp [PyData.eqv]
    rw [this, Bool.eq_iff_iff]
    simp
  unfold inD inB
  rw [ed, e1, e2]
  simp only
  rw [if_pos ⟨sp, shp_int c⟩, ea]
/-! ### parts by marks -/
def clsL (f : Nat → Int) (n : Nat) (q : Int) : List Int := ((List.range n).filter fun x => decide (f x = q)).map fun (x : Nat) => (x : Int)
def prL (f : Nat → Int) (n c : Nat) : List (List Int) := ((List.range c).filter fun p => decide (f p = (p : Int))).map fun (p : Nat) => clsL f n (p : Int)
theorem cls_mem {f : Nat → Int} {n : Nat} {q k : Int} : k ∈ clsL f n q ↔ ∃ x : Nat, x < n ∧ f x = q ∧ k = (x : Int) := by
  unfold clsL
  rw [List.mem_map]
  constructor
  · rintro ⟨x, hx, rfl⟩
    rw [List.mem_filter, List.mem_range, decide_eq_true_eq] at hx
    exact ⟨x, hx.1, hx.2, rfl⟩
  · rintro ⟨x, h1, h2, rfl⟩
    exact ⟨x, by rw [List.mem_filter, List.mem_range, decide_eq_true_eq]; exact ⟨h1, h2⟩, rfl⟩
theorem cls_lt {f : Nat → Int} {n : Nat} {q : Int} : (clsL f n q).Pairwise (· < ·) := by
  unfold clsL
  rw [List.pairwise_map]
  exact (List.pairwise_lt_range.filter _).imp fun h => by omega
theorem cls_len {f : Nat → Int} {n : Nat} {q : Int} : (clsL f n q).length ≤ n := by
  unfold clsL
  rw [List.length_map]
  exact Nat.le_trans (List.length_filter_le _ _) (by simp)
theorem prL_succ {f : Nat → Int} {n c : Nat} : prL f n (c + 1) = prL f n c ++ (if f c = (c : Int) then [clsL f n (c : Int)] else []) := by
  unfold prL
  rw [List.range_succ, List.filter_append, List.map_append]
  congr 1
  by_cases h : f c = (c : Int) <;> simp [h]
theorem mk_idem {E : Ed} {n : Nat} {f : Nat → Int} (h : Mk E n f) {i : Nat} (hi : i < n) : ∃ q : Nat, q < n ∧ f i = (q : Int) ∧ f q = (q : Int) ∧ q ≤ i := by
  obtain ⟨a, b⟩ := h.rg i hi
  refine ⟨(f i).toNat, by omega, by omega, ?_, ?_⟩
  · have e : ((f i).toNat : Int) = f i := by omega
    have := (h.eq (i := (f i).toNat) (j := i) (by omega) hi).mpr (by rw [e]; exact (h.rc i hi).symm)
    omega
  · have := h.lo i i hi hi .refl
    omega
/-- whether a place is in a part that is found already -/
theorem pr_any {E : Ed} {n : Nat} {f : Nat → Int} (h : Mk E n f) {c : Nat} (hc : c < n) : ((prL f n c).any fun l => decide ((c : Int) ∈ l)) = !decide (f c = (c : Int)) := by
  obtain ⟨q, q1, q2, q3, q4⟩ := mk_idem h hc
  by_cases e : f c = (c : Int)
  · rw [decide_eq_true e]
    rw [List.any_eq_false.mpr]
    · rfl
    · intro l hl z
      obtain ⟨p, hp, rfl⟩ := List.mem_map.mp hl
      rw [List.mem_filter, List.mem_range] at hp
      obtain ⟨x, _, hx, ex⟩ := cls_mem.mp (of_decide_eq_true z)
      have : x = c := by omega
      subst this
      omega
  · rw [decide_eq_false e]
    rw [List.any_eq_true.mpr]
    · rfl
    · refine ⟨clsL f n (q : Int), List.mem_map.mpr ⟨q, ?_, rfl⟩, decide_eq_true (cls_mem.mpr ⟨c, hc, q2, rfl⟩)⟩
      rw [List.mem_filter, List.mem_range, decide_eq_true_eq]
      exact ⟨by omega, q3⟩
/-- the keys, sorted, are the part -/
theorem keys_cls {ys : List D} {n : Nat} {f : Nat → Int} (hy : InN n ys) (h : Mk (ys.map keyD) n f) {c : Nat} (hc : c < n) (e : f c = (c : Int)) {ks : List Int} (nd : ks.Nodup) (hk : ∀ k, k ∈ ks ↔ Rch (ys.map keyD) (c : Int) k) : srtI ks = clsL f n (c : Int) := by
  refine le_uniq srtI_le (cls_lt.imp fun h => Int.le_of_lt h) (srtI_perm.trans (nd_perm nd (cls_lt.imp fun h => Int.ne_of_lt h) fun k => ?_))
  rw [hk, cls_mem]
  constructor
  · intro r
    have b : 0 ≤ k ∧ k < n := by
      cases r with
      | refl => omega
      | step _ a => exact adj_in hy a
    refine ⟨k.toNat, by omega, ?_, by omega⟩
    have := (h.eq (i := k.toNat) (j := c) (by omega) hc).mpr (by rw [show ((k.toNat : Nat) : Int) = k from by omega]; exact r.symm)
    omega
  · rintro ⟨x, h1, h2, rfl⟩
    exact ((h.eq h1 hc).mp (by omega)).symm
theorem keysI_of : ∀ {kvs : List (L2.Key × D)} {ks : List Int}, kvs.map (·.1) = ks.map Sum.inl → keysI kvs = some ks
  | [], [], _ => rfl
  | [], _ :: _, e => by simp at e
  | _ :: _, [], e => by simp at e
  | (k1, d) :: r, k :: ks, e => by
    simp only [List.map_cons, List.cons.injEq] at e
    obtain ⟨rfl, e⟩ := e
    unfold keysI
    rw [keysI_of e]; rfl
/-- a list of lists of whole numbers, all of them new since B -/
def LL (T : Sto) (B l : Nat) (css : List (List Int)) : Prop := ∃ rs : List Nat, T[l]? = some (.lst true (rs.map D.ref)) ∧ rs.length = css.length ∧ (∀ q ∈ rs.zip css, T[q.1]? = some (.lst true (q.2.map D.int)) ∧ B ≤ q.1 ∧ q.1 ≠ l) ∧ B ≤ l
/-! ### pieces -/
noncomputable def pcB (iW : Nat) : DenS := (sIf (dNotT (dTru (dAb true (iVal (dVar 2)) (.nm 5) tYesD (dOp inD (dVar 4) (dVar 5)) [5]))) (sSeq (sAsg (.nm 3) (dCallF iW 2 (dCons (dVar 1) (dCons (dVar 4) dNil))))
    (sExpr (dMt appendD (dVar 2) (dCons (dSK (dVar 3)) dNil)))) sNil)
noncomputable def piecesF (iW : Nat) : DenS := (sSeq (sAsg (.nm 2) (dLst dNil))
    (sSeq (sFor (iRange1 (dCons (dOp ixD (dVar 0) (dC (.int 0))) dNil)) (.nm 4) (pcB iW))
    (sRet (dVar 2))))
@[simp] theorem ev_sk {o : Den} {lv : Lv} {ρ : Dv.Env} {S : Sto} : dSK o lv ρ S = (o lv ρ S).bind skK := id rfl
theorem sk_dk {T : Sto} {dl : Nat} {kvs : List (L2.Key × D)} {ks : List Int} (h : T[dl]? = some (.dk kvs)) (hk : kvs.map (·.1) = ks.map Sum.inl) (hl : ks.length < 64) : skK (.ref dl) T = .ok (.ref T.length) (T ++ [.lst true ((srtI ks).map D.int)]) := by
  unfold skK
  rw [dk_is h]
  simp only [Option.bind_some, keysI_of hk, skR]
  rw [if_pos hl]
theorem quiet_in {x y : D} {S : Sto} : quiet (inD x y S) = inD x y S := by
  unfold inD
  cases inB x y S <;> rfl
theorem ab_zip {T : Sto} {l : Nat} {rs0 : List D} {cond : Dv.Env → Sto → R Bool} {elt : Dv.Env → Sto → R D} {ρ : Dv.Env} {p : Int} (hl : T[l]? = some (.lst true rs0)) (hce : ∀ r ρ1, tgD (.nm 5) (.ref r) ρ = some ρ1 → cond ρ1 T = .ok true T ∧ quiet (elt ρ1 T) = inD (.int p) (.ref r) T) :
    ∀ (rs : List Nat) (css : List (List Int)), rs.length = css.length → (∀ q ∈ rs.zip css, T[q.1]? = some (.lst true (q.2.map D.int)) ∧ q.2.length ≤ 900) →
      abGo true (Src.lst l true rs0).chk (.nm 5) cond elt ρ (rs.map D.ref) T = .ok (.bl (css.any fun c => decide (p ∈ c))) T
  | [], [], _, _ => by
    rw [List.map_nil]
    unfold abGo
    rw [if_pos (show (Src.lst l true rs0).chk T from hl)]
    rfl
  | [], _ :: _, h, _ => by simp at h
  | _ :: _, [], h, _ => by simp at h
  | r :: rs, c :: css, h, hq => by
    obtain ⟨h1, h2⟩ := hq (r, c) (by simp)
    obtain ⟨z1, z2⟩ := hce r _ rfl
    rw [in_int h1 h2] at z2
    rw [List.map_cons]
    unfold abGo
    rw [if_pos (show (Src.lst l true rs0).chk T from hl)]
    simp only [tg_nm, z1, z2, quiet_ok, R.bind_ok, if_true]
    rw [List.any_cons]
    cases hp : decide (p ∈ c) with
    | true => rfl
    | false =>
      rw [if_neg (by decide), Bool.false_or]
      exact ab_zip hl hce rs css (by simpa using h) fun q hq' => hq q (by rw [List.zip_cons_cons]; exact List.mem_cons_of_mem _ hq')
def pcJ (S : Sto) (nn : D) (ys : List D) (f : Nat → Int) (n : Nat) (xs : List D) (ρ : Dv.Env) (T : Sto) : Prop := ∃ (c k : Nat) (o3 o4 : Option D), ρ = [some nn, some (.tup ys), some (.ref S.length), o3, o4, none] ∧ xs = (List.range' c k).map iD ∧ c + k = n ∧ LL T S.length S.length (prL f n c) ∧ Gw S T
def pcP (S : Sto) (f : Nat → Int) (n : Nat) (d : D) (T : Sto) : Prop := ∃ l, d = .ref l ∧ LL T S.length l (prL f n n) ∧ Gw S T
theorem LL.up {T T' : Sto} {B l : Nat} {css : List (List Int)} (h : LL T B l css) (g : ∀ (j : Nat) o, T[j]? = some o → T'[j]? = some o) : LL T' B l css := by
  obtain ⟨rs, h1, h2, h3, h4⟩ := h
  exact ⟨rs, g _ _ h1, h2, fun q hq => ⟨g _ _ (h3 q hq).1, (h3 q hq).2⟩, h4⟩
theorem zip_app {rs : List Nat} {css : List (List Int)} {r : Nat} {c : List Int} (h : rs.length = css.length) : (rs ++ [r]).zip (css ++ [c]) = rs.zip css ++ [(r, c)] := by
  rw [List.zip_append h]; rfl
section
variable {bs : Bodies} {m iN iW i : Nat} {S : Sto} {ys : List D} {n : Nat} {f : Nat → Int}
theorem pieces_ok {tt : D} (hN : bs[iN]? = some (nearF, 5)) (hW : bs[iW]? = some (waysF iN, 6)) (hP : bs[i]? = some (piecesF iW, 6)) (hm : 4 ≤ m) (hy : InN n ys) (hn : n ≤ 8) (hl : ys.length ≤ 100) (hf : Mk (ys.map keyD) n f) :
    (Phi bs m 0 i [.tup [.int (n : Int), tt], .tup ys] S).wp (pcP S f n) noX := by
  refine wpP (by omega) hP ?_
  simp [piecesF, mx]
  refine ⟨by omega, ?_⟩
  refine for_inv (pcJ S (.tup [.int (n : Int), tt]) ys f n) ?_ ?_ _ _ _ ?_
  · rintro x xs ρ T ⟨c, k, o3, o4, rfl, ex, ck, ll, gw⟩
    obtain ⟨k', rfl, rfl, rfl⟩ := rng_cons ex
    refine ⟨trivial, _, rfl, ?_⟩
    obtain ⟨rs, h1, h2, h3, h4⟩ := ll
    have lrs : rs.length ≤ 8 := by
      rw [h2]; unfold prL; rw [List.length_map]
      exact Nat.le_trans (List.length_filter_le _ _) (by simp; omega)
    have hc : c < n := by omega
    have small : ∀ q ∈ rs.zip (prL f n c), q.2.length ≤ 900 := fun q hq => by
      obtain ⟨p, _, e⟩ := List.mem_map.mp (List.of_mem_zip hq).2
      rw [← e]
      exact Nat.le_trans cls_len (by omega)
    simp [pcB, h1, iD]
    rw [ab_zip (p := (c : Int)) h1 (fun r ρ1 e => ?_) rs (prL f n c) h2 fun q hq => ⟨(h3 q hq).1, small q hq⟩, pr_any hf hc]
    · by_cases e : f c = (c : Int)
      · simp [e]
        refine R.to (ways_ok hN hW (by omega) (.inl rfl) hy hn hl ⟨by omega, by omega⟩) ?_
        rintro d V ⟨dl, kvs, ks, rfl, ld, hd, hk, nd, lk, g2, hr, _⟩
        have h1' := g2.kp _ _ h1
        have ltl := (List.getElem?_eq_some_iff.mp h1').1
        have h1a : ∀ W : Sto, (V ++ W)[S.length]? = some (.lst true (rs.map D.ref)) := fun W => by rw [List.getElem?_append_left ltl]; exact h1'
        simp [h1', sk_dk hd hk (by omega), h1a, mx]
        rw [keys_cls hy hf hc e nd hr]
        have lnV : S.length < V.length := ltl
        refine ⟨by omega, c + 1, k', _, _, rfl, rfl, by omega, ⟨rs ++ [V.length], ?_, ?_, ?_, Nat.le_refl _⟩, ((gw.trans g2).trans (Gw.app _)).put (Nat.le_refl _)⟩
        · rw [List.getElem?_set_self (by simp; omega)]; simp
        · rw [prL_succ, if_pos e]; simp [h2]
        · rw [prL_succ, if_pos e, zip_app h2]
          intro q hq
          rcases List.mem_append.mp hq with z | z
          · obtain ⟨z1, z2, z3⟩ := h3 q z
            have z1' := g2.kp _ _ z1
            exact ⟨by rw [List.getElem?_set_ne (Ne.symm z3), List.getElem?_append_left (List.getElem?_eq_some_iff.mp z1').1]; exact z1', z2, z3⟩
          · rw [List.mem_singleton.mp z]
            exact ⟨by rw [List.getElem?_set_ne (by omega)]; simp, by have := gw.ln; omega, by show V.length ≠ S.length; omega⟩
      · simp [e]
        refine ⟨c + 1, k', _, _, rfl, rfl, by omega, ?_, gw⟩
        rw [prL_succ, if_neg e, List.append_nil]
        exact ⟨rs, h1, h2, h3, h4⟩
    · cases e
      simp [wipeE, quiet_in]
  · rintro ρ T ⟨c, k, o3, o4, rfl, ex, ck, ll, gw⟩
    have k0 := rng_nil ex
    refine ⟨trivial, ?_⟩
    simp
    exact ⟨S.length, rfl, by rw [show n = c from by omega]; rw [show n = c from by omega] at ll; exact ll, gw⟩
  · exact ⟨0, n, none, none, rfl, rng_items, by omega, ⟨[], by simp, rfl, fun q hq => absurd hq (by simp [prL]), Nat.le_refl _⟩, Gw.app _⟩
end
end Dv

namespace Dv
open PySem PySem.Spec PyProof.Rows L2 Df
/-! ### membership in a list of pairs -/
/-! ### a ring drawn -/
/-- ties so far -/
structure TS (n : Nat) (ts : List D) : Prop where
  it : ∀ y ∈ ts, isTie (n : Int) y = true
  nd : ts.Nodup
  ln : ts.length ≤ 7
theorem TS.b {n : Nat} {ts : List D} (h : TS n ts) (hn : n ≤ 8) : AllB ts := fun y hy => tie_bp (h.it y hy) (by omega)
section
variable {bs : Bodies} {m iT iX : Nat} {S : Sto} {r : Nat}
/-- names: all unlike, below b -/
structure Nms (b : Nat) (xs : List D) : Prop where
  nm : ∀ y ∈ xs, ∃ k : Nat, y = .int (k : Int) ∧ k < b
  nd : xs.Nodup
theorem Nms.at {b : Nat} {xs : List D} (h : Nms b xs) {j : Nat} (h1 : j < xs.length) : ∃ k : Nat, L2.atI xs (j : Int) = some (.int (k : Int)) ∧ k < b ∧ xs[j]? = some (.int (k : Int)) := by
  obtain ⟨k, e, hk⟩ := h.nm (xs[j]'h1) (List.getElem_mem _)
  have : xs[j]? = some (.int (k : Int)) := by rw [List.getElem?_eq_getElem h1, e]
  exact ⟨k, L2.atI_nat this, hk, this⟩
/-- the name at a number -/
def nmAt (xs : List D) (j : Nat) : Int := match xs[j]? with
  | some (.int k) => k
  | _ => 0
theorem Nms.at' {b : Nat} {xs : List D} (h : Nms b xs) {j : Nat} (h1 : j < xs.length) : L2.atI xs (j : Int) = some (.int (nmAt xs j)) ∧ 0 ≤ nmAt xs j ∧ nmAt xs j < b := by
  obtain ⟨k, e1, e2, e3⟩ := h.at h1
  unfold nmAt
  rw [e3]
  exact ⟨e1, by simp, by simp; omega⟩
theorem Nms.inj {b : Nat} {xs : List D} (h : Nms b xs) {i j : Nat} (h1 : i < xs.length) (h2 : j < xs.length) (e : nmAt xs i = nmAt xs j) : i = j := by
  obtain ⟨k, _, _, e3⟩ := h.at h1
  obtain ⟨k', _, _, e4⟩ := h.at h2
  unfold nmAt at e
  rw [e3, e4] at e
  simp only at e
  exact (List.getElem?_inj h1 h.nd).mp (by rw [e3, e4, e])
end
end Dv

namespace Dv
open PySem PySem.Spec PyProof.Rows L2 Df
section
variable {T : Sto}
@[simp] theorem ixA_t {xs : List D} {k : D} : ixA (.tup xs) k T = ixD (.tup xs) k T := id rfl
theorem ixA_l {i : Nat} {b : Bool} {xs : List D} {k : Int} {d : D} (h : T[i]? = some (.lst b xs)) (hx : L2.atI xs k = some d) : ixA (.ref i) (.int k) T = .ok d T := by
  rw [ix_li h, ix_r h, hx]; rfl
theorem setA_l {i : Nat} {xs : List D} {j : Nat} {v : D} (h : T[i]? = some (.lst true xs)) (hj : j < xs.length) : setA (.ref i) (.int (j : Int)) v T = .ok () (T.set i (.lst true (xs.set j v))) := by
  have e : ixN xs.length (j : Int) = some j := by
    unfold L2.ixN
    rw [if_pos (by omega), if_pos (by omega)]; simp
  unfold setA dkD setD
  simp [h, e]
end
theorem set_same {T : Sto} {i : Nat} {o : O} (h : T[i]? = some o) : T.set i o = T := by
  refine List.ext_getElem? fun j => ?_
  by_cases c : i = j
  · subst c; rw [List.getElem?_set_self (List.getElem?_eq_some_iff.mp h).1, h]
  · rw [List.getElem?_set_ne c]
/-- sides -/
def Col (E : Ed) (c : Int → Int) : Prop := (∀ x, c x = 0 ∨ c x = 1) ∧ ∀ a b, Adj E a b → c a ≠ c b
/-- the side of a place, by a way from its mark -/
def Sd (E : Ed) (f : Nat → Int) (x : Nat) (v : Int) : Prop := ∃ p, Pth E (f x) (x : Int) p ∧ v = ((p.length : Int) - 1) % 2
noncomputable def sdB2 : DenS := (sSubW setA (dVar 5) (dVar 4) (dOp modD (dOp subD (dCl lenD (dCons (dOp ixA (dVar 3) (dVar 4)) dNil)) (dC (.int 1))) (dC (.int 2))))
noncomputable def sdB1b : DenS := (sFor (iVal (dVar 2)) (.nm 4) sdB2)
noncomputable def sdB1 (iW : Nat) : DenS := (sSeq (sAsg (.nm 3) (dCallF iW 2 (dCons (dVar 1) (dCons (dOp ixA (dVar 2) (dC (.int 0))) dNil)))) sdB1b)
noncomputable def sdR3 : DenS := (sSeq (sIf (dTru (dAb true (iVal (dVar 1)) (.tp [6, 7]) tYesD (dOp eqD (dOp ixA (dVar 5) (dVar 6)) (dOp ixA (dVar 5) (dVar 7))) [6, 7])) (sRet (dC .non)) sNil)
    (sRet (dVar 5)))
noncomputable def sidesF (iP iW : Nat) : DenS := (sSeq (sAsg (.nm 5) (dOp mulD (dLst (dCons (dC (.int 0)) dNil)) (dOp ixA (dVar 0) (dC (.int 0)))))
    (sSeq (sFor (iVal (dCallF iP 2 (dCons (dVar 0) (dCons (dVar 1) dNil)))) (.nm 2) (sdB1 iW))
    sdR3))
def sdE (fr : D) (ys : List D) (o2 o3 o4 : Option D) (sl : Nat) : Dv.Env := [some fr, some (.tup ys), o2, o3, o4, some (.ref sl), none, none]
/-- a list of n sides, those in X by ways -/
structure SL (T : Sto) (E : Ed) (f : Nat → Int) (n sl : Nat) (ss : List Int) (X : Nat → Prop) : Prop where
  hs : T[sl]? = some (.lst true (ss.map D.int))
  ln : ss.length = n
  b : ∀ v ∈ ss, v = 0 ∨ v = 1
  sd : ∀ x : Nat, X x → ∀ v, ss[x]? = some v → Sd E f x v
theorem SL.put {T : Sto} {E : Ed} {f : Nat → Int} {n sl : Nat} {ss : List Int} {X : Nat → Prop} (h : SL T E f n sl ss X) {j : Nat} {v : Int} (hj : j < n) (hv : Sd E f j v) : SL (T.set sl (.lst true ((ss.set j v).map D.int))) E f n sl (ss.set j v) fun x => X x ∨ x = j := by
  have lt := (List.getElem?_eq_some_iff.mp h.hs).1
  refine ⟨List.getElem?_set_self lt, by rw [List.length_set, h.ln], fun w hw => ?_, fun x hx w hw => ?_⟩
  · rcases List.mem_or_eq_of_mem_set hw with z | z
    · exact h.b w z
    · obtain ⟨p, _, e⟩ := hv
      subst z
      omega
  · by_cases c : x = j
    · subst c
      rw [List.getElem?_set_self (by rw [h.ln]; exact hj)] at hw
      cases hw
      exact hv
    · rw [List.getElem?_set_ne (Ne.symm c)] at hw
      exact h.sd x (hx.resolve_right c) w hw
theorem SL.up {T T' : Sto} {E : Ed} {f : Nat → Int} {n sl : Nat} {ss : List Int} {X : Nat → Prop} (h : SL T E f n sl ss X) (g : Gw T T') : SL T' E f n sl ss X := ⟨g.kp _ _ h.hs, h.ln, h.b, h.sd⟩
section
variable {bs : Bodies} {m iN iW iP i : Nat} {S : Sto} {ys : List D} {n : Nat} {f : Nat → Int}
/-- within a piece: c is to go, X is done -/
def sdJ2 (S T0 : Sto) (fr : D) (ys : List D) (f : Nat → Int) (n sl dl r : Nat) (kvs : List (L2.Key × D)) (q : Int) (c0 : List Int) (X : Nat → Prop) (xs : List D) (ρ : Dv.Env) (T : Sto) : Prop := ∃ (o4 : Option D) (ss cd cr : List Int), ρ = sdE fr ys (some (.ref r)) (some (.ref dl)) o4 sl ∧ xs = cr.map D.int ∧ c0 = cd ++ cr ∧ SL T (ys.map keyD) f n sl ss (fun x => X x ∨ (x : Int) ∈ cd) ∧ T = T0.set sl (.lst true (ss.map D.int)) ∧ Gw S T
theorem sd2_ok {T0 : Sto} {fr x : D} {sl dl r : Nat} {kvs : List (L2.Key × D)} {q : Int} {c0 : List Int} {X : Nat → Prop} {xs : List D} {ρ : Dv.Env} {T : Sto} (hl : S.length ≤ sl) (hn : n ≤ 8) (hd : T0[dl]? = some (.dk kvs)) (ne : dl ≠ sl)
    (hc : ∀ z ∈ c0, ∃ (j : Nat), z = (j : Int) ∧ j < n ∧ f j = q ∧ ∃ (w : Nat) (p : List Int), valK kvs (.inl z) = some (.ref w) ∧ T0[w]? = some (.lst true (p.map D.int)) ∧ w ≠ sl ∧ Pth (ys.map keyD) q z p)
    (h : sdJ2 S T0 fr ys f n sl dl r kvs q c0 X (x :: xs) ρ T) {Q : Fl → Sto → Prop} :
    ∃ ρ1, tgD (.nm 4) x ρ = some ρ1 ∧ (sdB2 (Phi bs m) ρ1 T).wp (forQ (sdJ2 S T0 fr ys f n sl dl r kvs q c0 X xs) Q) noX := by
  obtain ⟨o4, ss, cd, cr, rfl, ex, ec, sL, eT, gw⟩ := h
  cases cr with
  | nil => simp at ex
  | cons z cr =>
    rw [List.map_cons] at ex
    cases ex
    obtain ⟨j, rfl, hj, hq, w, p, h1, h2, h3, h4⟩ := hc z (by rw [ec]; simp)
    refine ⟨_, rfl, ?_⟩
    have hd' : T[dl]? = some (.dk kvs) := by rw [eT, List.getElem?_set_ne (Ne.symm ne)]; exact hd
    have h2' : T[w]? = some (.lst true (p.map D.int)) := by rw [eT, List.getElem?_set_ne (Ne.symm h3)]; exact h2
    simp [sdB2, sdE, ix_dk hd', h1, h2']
    rw [setA_l sL.hs (by simp; rw [sL.ln]; exact hj)]
    simp
    rw [show (ss.map D.int).set j (.int (((p.length : Int) - 1) % 2)) = (ss.set j (((p.length : Int) - 1) % 2)).map D.int from by rw [List.map_set]]
    have sp := sL.put hj ⟨p, by rw [hq]; exact h4, rfl⟩
    refine ⟨_, _, cd ++ [(j : Int)], cr, rfl, rfl, by rw [ec]; simp, ⟨sp.hs, sp.ln, sp.b, fun x hx v hv => sp.sd x ?_ v hv⟩, by rw [eT, List.set_set], gw.put hl⟩
    rcases hx with hx | hx
    · exact .inl (.inl hx)
    · rcases List.mem_append.mp hx with z | z
      · exact .inl (.inr z)
      · right; have := List.mem_singleton.mp z; omega
theorem cls_head {E : Ed} (hf : Mk E n f) {p : Nat} (hp : p < n) (e : f p = (p : Int)) : ∃ r, clsL f n (p : Int) = (p : Int) :: r := by
  have hm : (p : Int) ∈ clsL f n (p : Int) := cls_mem.mpr ⟨p, hp, e, rfl⟩
  have hs := cls_lt (f := f) (n := n) (q := (p : Int))
  cases hc : clsL f n (p : Int) with
  | nil => rw [hc] at hm; cases hm
  | cons a r =>
    rw [hc] at hm hs
    obtain ⟨x, hx, fx, ex⟩ := cls_mem.mp (show a ∈ clsL f n (p : Int) by rw [hc]; exact List.mem_cons_self)
    have := hf.lo x x hx hx .refl
    rcases List.mem_cons.mp hm with z | z
    · exact ⟨r, by rw [z]⟩
    · have := (List.pairwise_cons.mp hs).1 _ z
      omega
def sdJ1 (S : Sto) (fr : D) (ys : List D) (f : Nat → Int) (n sl l : Nat) (rs : List Nat) (css : List (List Int)) (xs : List D) (ρ : Dv.Env) (T : Sto) : Prop := ∃ (o2 o3 o4 : Option D) (ss : List Int) (dr rr : List Nat) (dc rc : List (List Int)), ρ = sdE fr ys o2 o3 o4 sl ∧ xs = rr.map D.ref ∧ rs = dr ++ rr ∧ css = dc ++ rc ∧ rr.length = rc.length ∧ (∀ q ∈ rr.zip rc, T[q.1]? = some (.lst true (q.2.map D.int)) ∧ q.1 ≠ sl) ∧ T[l]? = some (.lst true (rs.map D.ref)) ∧ SL T (ys.map keyD) f n sl ss (fun x => ∃ c ∈ dc, (x : Int) ∈ c) ∧ Gw S T
theorem sd1_ok (hN : bs[iN]? = some (nearF, 5)) (hW : bs[iW]? = some (waysF iN, 6)) (hm : 3 ≤ m) (hy : InN n ys) (hn : n ≤ 8) (hlen : ys.length ≤ 100) (hf : Mk (ys.map keyD) n f) {fr x : D} {sl l : Nat} {rs : List Nat} {css : List (List Int)} (hcs : ∀ c ∈ css, c ∈ prL f n n) (hl : S.length ≤ sl) (ls : l ≠ sl) {xs : List D} {ρ : Dv.Env} {T : Sto}
    (h : sdJ1 S fr ys f n sl l rs css (x :: xs) ρ T) {Q : Fl → Sto → Prop} :
    ∃ ρ1, tgD (.nm 2) x ρ = some ρ1 ∧ (sdB1 iW (Phi bs m) ρ1 T).wp (forQ (sdJ1 S fr ys f n sl l rs css xs) Q) noX := by
  obtain ⟨o2, o3, o4, ss, dr, rr, dc, rc, rfl, ex, er, ec, el, hz, hL, sL, gw⟩ := h
  cases rr with
  | nil => simp at ex
  | cons r rr =>
    cases rc with
    | nil => simp at el
    | cons c rc =>
      rw [List.map_cons] at ex
      cases ex
      obtain ⟨p, hp, pc⟩ := List.mem_map.mp (hcs c (by rw [ec]; simp))
      rw [List.mem_filter, List.mem_range, decide_eq_true_eq] at hp
      obtain ⟨hp, fp⟩ := hp
      obtain ⟨rest, hd⟩ := cls_head hf hp fp
      obtain ⟨z1, z2⟩ := hz (r, c) (by simp)
      have z1 : T[r]? = some (.lst true (c.map D.int)) := z1
      have z2 : r ≠ sl := z2
      refine ⟨_, rfl, ?_⟩
      have h0 : L2.atI (c.map D.int) 0 = some (.int (p : Int)) := by rw [← pc, hd]; exact L2.atI_nat (j := 0) rfl
      simp [sdB1, sdE, ixA_l z1 h0]
      refine R.to (ways_ok hN hW hm (.inl rfl) hy hn hlen ⟨by omega, by omega⟩) ?_
      rintro d V ⟨dl, kvs, ks, rfl, ld, hd, hk, nd, lk, g2, hr, hv⟩
      have z1' := g2.kp _ _ z1
      have sl' := sL.up g2
      have ltl := (List.getElem?_eq_some_iff.mp sL.hs).1
      have ne : dl ≠ sl := by omega
      simp [sdB1b, z1']
      have step : ∀ (o4 : Option D), (forGo (Src.lst r true (c.map D.int)).chk (.nm 4) (sdB2 (Phi bs m)) (c.map D.int) (sdE fr ys (some (.ref r)) (some (.ref dl)) o4 sl) V).wp (forQ (sdJ1 S fr ys f n sl l rs css (rr.map D.ref)) Q) noX := by
        intro o4
        have hq : ∀ z ∈ c, ∃ (j : Nat), z = (j : Int) ∧ j < n ∧ f j = (p : Int) ∧ ∃ (w : Nat) (p_1 : List Int), valK kvs (.inl z) = some (.ref w) ∧ V[w]? = some (.lst true (p_1.map D.int)) ∧ w ≠ sl ∧ Pth (ys.map keyD) (p : Int) z p_1 := by
          intro z hz
          rw [← pc] at hz
          obtain ⟨j, hj, fj, rfl⟩ := cls_mem.mp hz
          have rj : Rch (ys.map keyD) (p : Int) (j : Int) := ((hf.eq hj hp).mp (by omega)).symm
          obtain ⟨v, ev, vm⟩ := val_in ((key_in hk).mpr ((hr _).mpr rj))
          obtain ⟨w, q, e1, e2, e3, e4, k, ek, e5⟩ := hv _ vm
          cases ek
          have e1 : v = .ref w := e1
          subst e1
          exact ⟨j, rfl, hj, fj, w, q, ev, e2, by omega, e5⟩
        refine for_inv (sdJ2 S V fr ys f n sl dl r kvs (p : Int) c (fun x => ∃ c ∈ dc, (x : Int) ∈ c)) ?_ ?_ _ _ _ ?_
        · intro y yss ρ T2 h2
          obtain ⟨ρ1, e1, e2⟩ := sd2_ok (bs := bs) (m := m) hl hn hd ne hq h2 (Q := _)
          refine ⟨?_, ρ1, e1, e2⟩
          obtain ⟨_, ss2, _, _, _, _, _, _, e, _⟩ := h2
          rw [e]
          show (V.set sl _)[r]? = _
          rw [List.getElem?_set_ne (Ne.symm z2)]; exact z1'
        · rintro ρ T2 ⟨o4, ss2, cd, cr, rfl, ex, ec2, sL2, eT, gw2⟩
          have c0 : cr = [] := by simpa using ex.symm
          subst c0
          rw [List.append_nil] at ec2
          subst ec2
          refine ⟨?_, ?_⟩
          · rw [eT]
            show (V.set sl _)[r]? = _
            rw [List.getElem?_set_ne (Ne.symm z2)]; exact z1'
          · refine ⟨_, _, _, ss2, dr ++ [r], rr, dc ++ [c], rc, rfl, rfl, by rw [er]; simp, by rw [ec]; simp, by simpa using el, fun q hq' => ?_, ?_, ⟨sL2.hs, sL2.ln, sL2.b, fun x hx v hv' => sL2.sd x ?_ v hv'⟩, gw2⟩
            · obtain ⟨y1, y2⟩ := hz q (by rw [List.zip_cons_cons]; exact List.mem_cons_of_mem _ hq')
              exact ⟨by rw [eT, List.getElem?_set_ne (Ne.symm y2)]; exact g2.kp _ _ y1, y2⟩
            · rw [eT, List.getElem?_set_ne (Ne.symm ls)]; exact g2.kp _ _ hL
            · obtain ⟨c', hc', hx⟩ := hx
              rcases List.mem_append.mp hc' with y | y
              · exact .inl ⟨c', y, hx⟩
              · rw [List.mem_singleton.mp y] at hx; exact .inr hx
        · exact ⟨_, ss, [], c, rfl, rfl, rfl, ⟨sl'.hs, sl'.ln, sl'.b, fun x hx v hv' => sl'.sd x (hx.resolve_right (by simp)) v hv'⟩, (set_same sl'.hs).symm, gw.trans g2⟩
      exact step o4
/-- what is told -/
def sdP (S : Sto) (E : Ed) (n : Nat) (d : D) (T : Sto) : Prop := Gw S T ∧ ((d = .non ∧ ∀ c, ¬ Col E c) ∨ ∃ (l : Nat) (ss : List Int), d = .ref l ∧ S.length ≤ l ∧ T[l]? = some (.lst true (ss.map D.int)) ∧ ss.length = n ∧ (∀ v ∈ ss, v = 0 ∨ v = 1) ∧ ∀ a b : Nat, ((a : Int), (b : Int)) ∈ E → ss[a]? ≠ ss[b]?)
/-- whether two tied are alike -/
def alk (ss : List Int) (y : D) : Bool := decide (ss[(keyD y).1.toNat]? = ss[(keyD y).2.toNat]?)
theorem sd3_ok (hy : InN n ys) (hn : n ≤ 8) (hf : Mk (ys.map keyD) n f) {fr : D} {sl : Nat} {o2 o3 o4 : Option D} {ss : List Int} {T : Sto} (hl : S.length ≤ sl) (gw : Gw S T) (sL : SL T (ys.map keyD) f n sl ss fun x => x < n) :
    (sdR3 (Phi bs m) (sdE fr ys o2 o3 o4 sl) T).wp (FlR (sdP S (ys.map keyD) n) noX) noX := by
  have ac : ∀ lv, abGo true (Src.tup ys).chk (.tp [6, 7]) (tYesD lv) ((dOp eqD (dOp ixA (dVar 5) (dVar 6)) (dOp ixA (dVar 5) (dVar 7))) lv) (sdE fr ys o2 o3 o4 sl) ys T = .ok (.bl (ys.any (alk ss))) T := by
    intro lv
    refine ab_any trivial fun y hy' => ?_
    obtain ⟨a, b, rfl, ha, hb⟩ := hy y hy'
    refine ⟨_, tg_tp2, rfl, R.eq_of ?_⟩
    have la : a < ss.length := by rw [sL.ln]; exact ha
    have lb : b < ss.length := by rw [sL.ln]; exact hb
    have ea : L2.atI (ss.map D.int) (a : Int) = some (.int (ss[a])) := L2.atI_nat (by simp [la])
    have eb : L2.atI (ss.map D.int) (b : Int) = some (.int (ss[b])) := L2.atI_nat (by simp [lb])
    simp [sdE, ixA_l sL.hs ea, ixA_l sL.hs eb, alk, keyD, la, lb]
  unfold sdR3
  have e1 : sdE fr ys o2 o3 o4 sl = [some fr, some (.tup ys), o2, o3, o4, some (.ref sl), none, none] := rfl
  rw [e1] at ac ⊢
  simp [wipeE]
  rw [ac]
  cases hw : ys.any (alk ss) with
  | true =>
    simp
    refine ⟨gw, .inl ⟨rfl, fun c hc => ?_⟩⟩
    obtain ⟨y, hy', ha⟩ := List.any_eq_true.mp hw
    obtain ⟨a, b, rfl, an, bn⟩ := hy y hy'
    have ha : ss[a]? = ss[b]? := by
      unfold alk keyD at ha
      simpa using of_decide_eq_true ha
    have la : a < ss.length := by rw [sL.ln]; exact an
    have lb : b < ss.length := by rw [sL.ln]; exact bn
    have ea := List.getElem?_eq_getElem la
    have eb := List.getElem?_eq_getElem lb
    rw [ea, eb] at ha
    have ha : ss[a] = ss[b] := Option.some.inj ha
    have adj : Adj (ys.map keyD) (a : Int) (b : Int) := .inl (List.mem_map.mpr ⟨_, hy', rfl⟩)
    have ff := (hf.eq an bn).mpr (.one adj)
    obtain ⟨pa, qa, va⟩ := sL.sd a an _ ea
    obtain ⟨pb, qb, vb⟩ := sL.sd b bn _ eb
    have ca := qa.par hc.1 hc.2
    have cb := qb.par hc.1 hc.2
    have := hc.2 _ _ adj
    rw [ff] at ca
    rcases hc.1 (f b) with h | h <;> omega
  | false =>
    simp
    refine ⟨gw, .inr ⟨sl, ss, rfl, hl, sL.hs, sL.ln, sL.b, fun a b hab e => ?_⟩⟩
    obtain ⟨y, hy', ek⟩ := List.mem_map.mp hab
    have := List.any_eq_false.mp hw y hy'
    refine this ?_
    unfold alk
    rw [ek]
    exact decide_eq_true e
theorem prL_all (hf : Mk (ys.map keyD) n f) {x : Nat} (hx : x < n) : ∃ c ∈ prL f n n, (x : Int) ∈ c := by
  obtain ⟨q, q1, q2, q3, q4⟩ := mk_idem hf hx
  refine ⟨clsL f n (q : Int), List.mem_map.mpr ⟨q, ?_, rfl⟩, cls_mem.mpr ⟨x, hx, q2, rfl⟩⟩
  rw [List.mem_filter, List.mem_range, decide_eq_true_eq]
  exact ⟨q1, q3⟩
theorem sides_ok {tt : D} (hN : bs[iN]? = some (nearF, 5)) (hW : bs[iW]? = some (waysF iN, 6)) (hP : bs[iP]? = some (piecesF iW, 6)) (hS : bs[i]? = some (sidesF iP iW, 8)) (hm : 5 ≤ m) (hy : InN n ys) (hn : n ≤ 8) (hl : ys.length ≤ 100) (hf : Mk (ys.map keyD) n f) :
    (Phi bs m 0 i [.tup [.int (n : Int), tt], .tup ys] S).wp (sdP S (ys.map keyD) n) noX := by
  refine wpP (by omega) hS ?_
  unfold sidesF
  simp [mx]
  refine ⟨by omega, ?_⟩
  refine R.to (pieces_ok hN hW hP (by omega) hy hn hl hf) ?_
  rintro d V ⟨l, rfl, ⟨rs, r1, r2, r3, r4⟩, gw⟩
  simp at r4
  have h0 : V[S.length + 1]? = some (.lst true (List.replicate n (D.int 0))) := gw.kp _ _ (by simp)
  have gS : Gw S V := (Gw.app _).trans gw
  simp [r1]
  refine for_inv (sdJ1 S (.tup [.int (n : Int), tt]) ys f n (S.length + 1) l rs (prL f n n)) ?_ ?_ _ _ _ ?_
  · intro x xs ρ T2 h2
    obtain ⟨ρ1, e1, e2⟩ := sd1_ok (bs := bs) (m := m - 1) hN hW (by omega) hy hn hl hf (fun c hc => hc) (by omega) (by omega) h2 (Q := _)
    refine ⟨?_, ρ1, e1, e2⟩
    obtain ⟨_, _, _, _, _, _, _, _, _, _, _, _, _, _, h, _⟩ := h2
    exact h
  · rintro ρ T2 ⟨o2, o3, o4, ss, dr, rr, dc, rc, rfl, ex, er, ec, el, hz, hL, sL, gw2⟩
    refine ⟨hL, ?_⟩
    have rr0 : rr = [] := by simpa using ex.symm
    subst rr0
    have rc0 : rc = [] := by simpa using el.symm
    subst rc0
    rw [List.append_nil] at ec
    subst ec
    simp
    exact sd3_ok hy hn hf (by omega) gw2 ⟨sL.hs, sL.ln, sL.b, fun x hx v hv => sL.sd x (prL_all hf hx) v hv⟩
  · refine ⟨_, _, _, List.replicate n 0, [], rs, [], prL f n n, rfl, rfl, rfl, rfl, r2, fun q hq => ?_, r1, ⟨?_, by simp, fun v hv => .inl (List.eq_of_mem_replicate hv), fun x hx => ?_⟩, gS⟩
    · obtain ⟨z1, z2, z3⟩ := r3 q hq
      simp at z2
      exact ⟨z1, by omega⟩
    · rw [h0, List.map_replicate]
    · obtain ⟨c, hc, _⟩ := hx
      cases hc
end
end Dv

namespace Dv
open PySem PySem.Spec PyProof.Rows L2 Df
section
variable {S : Sto}
theorem shr_n {i j q : Nat} (hq : i / 2 ^ j = q) : shrD (.int (i : Int)) (.int (j : Int)) S = .ok (.int (q : Int)) S := by
  subst hq
  unfold shrD
  simp only [Int.toNat_natCast]
  rw [if_pos (by omega)]
  congr 2
theorem shl_1 {j P : Nat} (h : j ≤ 1000) (hP : 2 ^ j = P) : shlD (.int 1) (.int (j : Int)) S = .ok (.int (P : Int)) S := by
  subst hP
  unfold shlD
  simp only [Int.toNat_natCast]
  rw [if_pos ⟨by omega, by omega, by decide⟩, Int.one_mul]
  congr 2
/-- a list of pairs against an empty one -/
theorem toP_prl {l : Nat} {b : Bool} {ws : List D} (h : S[l]? = some (.lst b ws)) (hw : AllB ws) (hl : ws.length ≤ 900) : toP S 1000 (.ref l) = some (.list (ws.map prP)) ∧ SeqAt.shaped (.list (ws.map prP)) = true := by
  refine ⟨?_, ?_⟩
  · have e := toPs_bp (S := S) (n := 994 - ws.length) hw
    rw [show 994 - ws.length + 5 + ws.length = 999 from by omega] at e
    unfold toP
    rw [h]
    simp only
    rw [e]; rfl
  · obtain ⟨a, b'⟩ := shp_prs hw
    simp [SeqAt.shaped, PyData.canLay0, PyData.depth, a]; omega
theorem eqB_emp {r q : Nat} {b b' : Bool} {ws : List D} (h : S[r]? = some (.lst b ws)) (h2 : S[q]? = some (.lst b' [])) (hw : AllB ws) (hl : ws.length ≤ 900) : eqB (.ref r) (.ref q) S = some (decide (ws = [])) := by
  obtain ⟨e1, s1⟩ := toP_prl h hw hl
  obtain ⟨e2, s2⟩ := toP_prl h2 (fun y hy => nomatch hy) (by simp)
  unfold eqB
  simp only [eqS, e1, e2]
  rw [if_pos ⟨s1, s2⟩]
  cases ws <;> rfl
theorem eq_emp {r q : Nat} {b b' : Bool} {ws : List D} (h : S[r]? = some (.lst b ws)) (h2 : S[q]? = some (.lst b' [])) (hw : AllB ws) (hl : ws.length ≤ 900) : eqD (.ref r) (.ref q) S = .ok (.bl (decide (ws = []))) S := by
  unfold eqD; rw [eqB_emp h h2 hw hl]
end
end Dv

namespace Df
/-- a tie closes a ring: its places were in one piece ahead of it -/
def Cyc (E : Ed) : Prop := ∃ E1 a b E2, E = E1 ++ (a, b) :: E2 ∧ Rch E1 a b
/-- a ring -/
structure Rng (E : Ed) (p : List Int) : Prop where
  ln : 3 ≤ p.length
  nd : p.Nodup
  ad : ∀ i x y, p[i]? = some x → p[i + 1]? = some y → Adj E x y
  cl : ∀ x y, p[0]? = some x → p[p.length - 1]? = some y → Adj E y x
theorem Adj.mono {E F : Ed} (h : ∀ e ∈ E, e ∈ F) {a b : Int} (k : Adj E a b) : Adj F a b := k.imp (h _) (h _)
theorem Pth.shape {E : Ed} {s k : Int} {p : List Int} (h : Pth E s k p) : p[0]? = some s ∧ p[p.length - 1]? = some k ∧ ∀ i x y, p[i]? = some x → p[i + 1]? = some y → Adj E x y := by
  induction h with
  | nil => exact ⟨rfl, rfl, fun i x y h1 h2 => by simp at h2⟩
  | @snoc b c p h a n ih =>
    obtain ⟨h1, h2, h3⟩ := ih
    have pp := h.pos
    refine ⟨by rw [List.getElem?_append_left (by omega)]; exact h1, by simp, fun i x y hx hy => ?_⟩
    by_cases e : i + 1 < p.length
    · rw [List.getElem?_append_left (by omega)] at hx hy
      exact h3 i x y hx hy
    · have l := (List.getElem?_eq_some_iff.mp hy).1
      rw [List.length_append, List.length_singleton] at l
      have ei : i = p.length - 1 := by omega
      subst ei
      rw [List.getElem?_append_left (by omega), h2] at hx
      rw [show p.length - 1 + 1 = p.length from by omega] at hy
      simp at hy
      cases hx; subst hy
      exact a
/-- a way beside a tie, and the tie, make a ring -/
theorem pth_rng {E1 E : Ed} {a b : Int} {p : List Int} (h : Pth E1 a b p) (hs : ∀ e ∈ E1, e ∈ E) (hab : (a, b) ∈ E) (ne : a ≠ b) (n1 : (a, b) ∉ E1) (n2 : (b, a) ∉ E1) : Rng E p := by
  obtain ⟨h1, h2, h3⟩ := h.shape
  have hp := h.pos
  refine ⟨?_, h.nd, fun i x y hx hy => (h3 i x y hx hy).mono hs, fun x y hx hy => ?_⟩
  · rcases Nat.lt_or_ge p.length 3 with l | l
    · exfalso
      by_cases e : p.length = 1
      · rw [e] at h2
        rw [h1] at h2
        cases h2; exact ne rfl
      · have e2 : p.length = 2 := by omega
        rw [e2] at h2
        rcases h3 0 a b h1 h2 with z | z
        · exact n1 z
        · exact n2 z
    · exact l
  · rw [h1] at hx; rw [h2] at hy
    cases hx; cases hy
    exact .inr hab
theorem cyc_mono {E F : Ed} (h : Cyc E) : Cyc (E ++ F) := by
  obtain ⟨E1, a, b, E2, rfl, r⟩ := h
  exact ⟨E1, a, b, E2 ++ F, by simp, r⟩
theorem cyc_snoc {E : Ed} {a b : Int} (h : Cyc (E ++ [(a, b)])) : Cyc E ∨ Rch E a b := by
  obtain ⟨E1, x, y, E2, e, r⟩ := h
  rcases List.eq_nil_or_concat E2 with rfl | ⟨E3, z, rfl⟩
  · have := List.append_inj' e rfl
    obtain ⟨rfl, e2⟩ := this
    cases e2
    exact .inr r
  · rw [List.concat_eq_append, ← List.cons_append, ← List.append_assoc] at e
    obtain ⟨rfl, _⟩ := List.append_inj' e rfl
    exact .inl ⟨E1, x, y, E3, rfl, r⟩
theorem cyc_nil : ¬ Cyc [] := fun ⟨E1, a, b, E2, e, _⟩ => by simp at e
end Df
namespace Dv
open PySem PySem.Spec PyProof.Rows L2 Df
@[simp] theorem ev_get {o k : Den} {lv : Lv} {ρ : Dv.Env} {S : Sto} : dGet o k lv ρ S = (o lv ρ S).bind (gtK1 k lv ρ) := id rfl
@[simp] theorem ev_ls {a : Den} {lv : Lv} {ρ : Dv.Env} {S : Sto} : dLS a lv ρ S = (a lv ρ S).bind lsK := id rfl
/-- a web whose ties are those of a frame of n places -/
structure TW (n : Nat) (ys : List D) : Prop where
  it : ∀ y ∈ ys, isTie (n : Int) y = true
  nd : ys.Nodup
  ln : ys.length ≤ 7
theorem tie_inn' {n : Nat} {ts : List D} (h : ∀ y ∈ ts, isTie (n : Int) y = true) : InN n ts := fun y hy => by
  have := h y hy
  match y, this with
  | .tup [.int i, .int j], h =>
    have := of_decide_eq_true h
    exact ⟨i.toNat, j.toNat, by congr <;> omega, by omega, by omega⟩
theorem tie_sh {n : Nat} {y : D} (h : isTie (n : Int) y = true) : ∃ a b : Nat, y = .tup [.int (a : Int), .int (b : Int)] ∧ a < b ∧ b < n := by
  match y, h with
  | .tup [.int i, .int j], h =>
    have := of_decide_eq_true h
    exact ⟨i.toNat, j.toNat, by congr <;> omega, by omega, by omega⟩
theorem TW.inn {n : Nat} {ys : List D} (h : TW n ys) : InN n ys := tie_inn' h.it
theorem TW.sub {n : Nat} {ys zs : List D} (h : TW n ys) (s : zs.Sublist ys) : TW n zs := ⟨fun y hy => h.it y (s.subset hy), h.nd.sublist s, Nat.le_trans s.length_le h.ln⟩
/-- the pairs of a web are unlike, either way about -/
theorem TW.un {n : Nat} {d r : List D} {a b : Nat} (h : TW n (d ++ .tup [.int (a : Int), .int (b : Int)] :: r)) : a < b ∧ b < n ∧ ((a : Int), (b : Int)) ∉ d.map keyD ∧ ((b : Int), (a : Int)) ∉ d.map keyD := by
  obtain ⟨a', b', e, l1, l2⟩ := tie_sh (h.it (.tup [.int (a : Int), .int (b : Int)]) (by simp))
  simp only [D.tup.injEq, List.cons.injEq, D.int.injEq, and_true] at e
  have nd := (List.nodup_append.mp h.nd).2.2
  refine ⟨by omega, by omega, fun z => ?_, fun z => ?_⟩ <;> obtain ⟨y, hy, ey⟩ := List.mem_map.mp z <;> obtain ⟨c, d', rfl, l3, l4⟩ := tie_sh (h.it y (by simp [hy])) <;> (have ey : ((c : Int), (d' : Int)) = _ := ey; simp only [Prod.mk.injEq] at ey)
  · exact nd _ hy _ List.mem_cons_self (by rw [ey.1, ey.2])
  · omega
noncomputable def roR : DenS := (sSeq (sIf (dBl (dOp isnD (dVar 5) (dC .non))) (sRet (dVar 5)) sNil)
    (sExpr (dMt appendD (dVar 2) (dCons (dTup (dCons (dVar 3) (dCons (dVar 4) dNil))) dNil))))
noncomputable def roB (iW : Nat) : DenS := (sSeq (sAsg (.nm 5) (dGet (dCallF iW 2 (dCons (dVar 2) (dCons (dVar 3) dNil))) (dVar 4))) roR)
noncomputable def ringF (iW : Nat) : DenS := (sSeq (sAsg (.nm 2) (dLst dNil))
    (sSeq (sFor (iVal (dVar 1)) (.tp [3, 4]) (roB iW))
    (sRet (dC .non))))
/-- what is told of rings -/
def rgP (S : Sto) (E : Ed) (n : Nat) (d : D) (T : Sto) : Prop := Gw S T ∧ ((d = .non ∧ ¬ Cyc E) ∨ ∃ (l : Nat) (p : List Int), d = .ref l ∧ S.length ≤ l ∧ T[l]? = some (.lst true (p.map D.int)) ∧ p.length ≤ n ∧ Rng E p ∧ Cyc E)
def roJ (S : Sto) (fr : D) (ys : List D) (xs : List D) (ρ : Dv.Env) (T : Sto) : Prop := ∃ (dn : List D) (o3 o4 o5 : Option D), ρ = [some fr, some (.tup ys), some (.ref S.length), o3, o4, o5] ∧ ys = dn ++ xs ∧ T[S.length]? = some (.lst true dn) ∧ Gw S T ∧ ¬ Cyc (dn.map keyD)
section
variable {bs : Bodies} {m iN iW i : Nat} {S : Sto} {ys : List D} {n : Nat}
theorem ring_ok {fr : D} (hN : bs[iN]? = some (nearF, 5)) (hW : bs[iW]? = some (waysF iN, 6)) (hR : bs[i]? = some (ringF iW, 6)) (hm : 4 ≤ m) (hy : TW n ys) (hn : n ≤ 8) :
    (Phi bs m 0 i [fr, .tup ys] S).wp (rgP S (ys.map keyD) n) noX := by
  refine wpP (by omega) hR ?_
  simp [ringF, mx]
  refine for_inv (roJ S fr ys) ?_ ?_ _ _ _ ?_
  · rintro x xs ρ T ⟨dn, o3, o4, o5, rfl, ey, hT, gw, nc⟩
    have hx := hy
    rw [ey] at hx
    obtain ⟨a, b, rfl, la, lb⟩ := tie_sh (hx.it x (by simp))
    obtain ⟨_, _, u1, u2⟩ := hx.un
    refine ⟨trivial, _, tg_tp2, ?_⟩
    have td : TW n dn := hx.sub (List.sublist_append_left _ _)
    simp [roB]
    refine R.to (ways_ok hN hW (by omega) (.inr ⟨_, true, rfl, hT⟩) td.inn hn (by have := td.ln; omega) ⟨by omega, by omega⟩) ?_
    rintro d T2 ⟨dl, kvs, ks, rfl, ld, hd, hk, nd, lk, g2, hr, hv⟩
    have T2' := g2.kp _ _ hT
    have lt2 := (List.getElem?_eq_some_iff.mp T2').1
    simp [gtK1, gtK2, dk_is hd, kyD]
    by_cases c : (b : Int) ∈ ks
    · obtain ⟨v, ev, vm⟩ := val_in ((key_in hk).mpr c)
      obtain ⟨r, p, e1, e2, e3, e4, k, e5, hp⟩ := hv _ vm
      cases e5
      have e1 : v = .ref r := e1
      subst e1
      have le := gw.ln
      simp [ev, roR, isnD, noB]
      refine ⟨gw.trans g2, .inr ⟨r, p, rfl, by omega, e2, by omega, ?_, ?_⟩⟩
      · refine pth_rng hp (fun e he => ?_) ?_ (by omega) u1 u2
        · rw [ey, List.map_append]; exact List.mem_append_left _ he
        · rw [ey, List.map_append]; exact List.mem_append_right _ List.mem_cons_self
      · exact ⟨dn.map keyD, a, b, xs.map keyD, by rw [ey, List.map_append]; rfl, (hr _).mp c⟩
    · obtain ⟨ev, _⟩ := val_out (kvs := kvs) (fun z => c ((key_in hk).mp z))
      have ll : dn.length ≤ 7 := td.ln
      simp [ev, roR, isnD, noB, T2', mx]
      refine ⟨by omega, dn ++ [.tup [.int a, .int b]], _, _, _, rfl, by rw [ey]; simp, List.getElem?_set_self lt2, (gw.trans g2).put (Nat.le_refl _), fun z => ?_⟩
      rw [List.map_append] at z
      rcases cyc_snoc (a := (a : Int)) (b := (b : Int)) z with z | z
      · exact nc z
      · exact c ((hr _).mpr z)
  · rintro ρ T ⟨dn, o3, o4, o5, rfl, ey, hT, gw, nc⟩
    rw [List.append_nil] at ey
    refine ⟨trivial, ?_⟩
    simp
    exact ⟨gw, .inl ⟨rfl, by rw [ey]; exact nc⟩⟩
  · exact ⟨[], none, none, none, rfl, rfl, by simp, Gw.app _, cyc_nil⟩
end
end Dv

namespace Df
/-! ### rings, parts and ties, counted -/
/-- how many are their own marks -/
def cnt (f : Nat → Int) (n : Nat) : Nat := ((List.range n).filter fun p => decide (f p = (p : Int))).length
theorem filt_one {p q : Nat → Bool} {M : Nat} (hM : p M = true) (h : ∀ i, q i = (p i && decide (i ≠ M))) : ∀ {n : Nat}, ((List.range n).filter p).length = ((List.range n).filter q).length + if M < n then 1 else 0
  | 0 => by simp
  | n + 1 => by
    have ih := filt_one hM h (n := n)
    rw [List.range_succ, List.filter_append, List.filter_append, List.length_append, List.length_append, ih]
    by_cases c : n = M
    · subst c
      have q0 : q n = false := by rw [h]; simp
      simp [hM, q0]
    · have e : q n = p n := by rw [h]; simp [c]
      cases hp : p n <;> simp [e, hp] <;> split <;> split <;> omega
theorem Mk.uniq {E : Ed} {n : Nat} {f g : Nat → Int} (hf : Mk E n f) (hg : Mk E n g) {i : Nat} (hi : i < n) : f i = g i := by
  obtain ⟨a1, a2⟩ := hf.rg i hi
  obtain ⟨b1, b2⟩ := hg.rg i hi
  have l1 := hf.lo i (g i).toNat hi (by omega) (by rw [Int.toNat_of_nonneg b1]; exact hg.rc i hi)
  have l2 := hg.lo i (f i).toNat hi (by omega) (by rw [Int.toNat_of_nonneg a1]; exact hf.rc i hi)
  omega
theorem cnt_congr {n : Nat} {f g : Nat → Int} (h : ∀ i, i < n → f i = g i) : cnt f n = cnt g n := by
  unfold cnt
  congr 1
  refine List.filter_congr fun x hx => ?_
  rw [h x (List.mem_range.mp hx)]
theorem Mk.cnt {E : Ed} {n : Nat} {f g : Nat → Int} (hf : Mk E n f) (hg : Mk E n g) : cnt f n = cnt g n := cnt_congr fun _ hi => hf.uniq hg hi
/-- marks by the same ways -/
theorem Mk.cong {E F : Ed} {n : Nat} {f : Nat → Int} (hf : Mk E n f) (h : ∀ a b, Rch E a b ↔ Rch F a b) : Mk F n f :=
  ⟨hf.rg, fun i hi => (h _ _).mp (hf.rc i hi), fun i j hi hj r => hf.lo i j hi hj ((h _ _).mpr r)⟩
theorem rch_same {E : Ed} {x y : Int} (h : Rch E x y) (a b : Int) : Rch E a b ↔ Rch (E ++ [(x, y)]) a b := by
  rw [rch_more]
  constructor
  · exact .inl
  · rintro (r | ⟨r1, r2⟩ | ⟨r1, r2⟩)
    · exact r
    · exact (r1.trans h).trans r2
    · exact (r1.trans h.symm).trans r2
theorem cnt_more {E : Ed} {n : Nat} {f : Nat → Int} (hf : Mk E n f) {x y : Nat} (hx : x < n) (hy : y < n) (hn : ¬ Rch E (x : Int) (y : Int)) : Df.cnt f n = Df.cnt (fun i => if f i = max (f x) (f y) then min (f x) (f y) else f i) n + 1 := by
  have ne : f x ≠ f y := fun e => hn ((hf.eq hx hy).mp e)
  obtain ⟨x0, x1⟩ := hf.rg x hx
  obtain ⟨y0, y1⟩ := hf.rg y hy
  -- the greater mark, which is its own
  have own : ∀ z, z < n → ∀ k : Nat, f z = (k : Int) → k < n ∧ f k = (k : Int) := fun z hz k e => by
    have hk : k < n := by have := (hf.rg z hz).2; omega
    refine ⟨hk, ?_⟩
    have := (hf.eq (i := k) (j := z) hk hz).mpr (by rw [← e]; exact (hf.rc z hz).symm)
    omega
  obtain ⟨M, hM⟩ : ∃ M : Nat, max (f x) (f y) = (M : Int) := ⟨(max (f x) (f y)).toNat, by omega⟩
  have hMn : M < n ∧ f M = (M : Int) := by
    rcases Int.le_total (f x) (f y) with l | l
    · exact own y hy M (by omega)
    · exact own x hx M (by omega)
  have := filt_one (p := fun p => decide (f p = (p : Int))) (q := fun p => decide (f p = (p : Int)) && decide (p ≠ M)) (M := M) (by simp [hMn.2]) (fun i => rfl) (n := n)
  rw [if_pos hMn.1] at this
  unfold Df.cnt
  rw [this]
  congr 2
  refine List.filter_congr fun i hi => ?_
  have hi := List.mem_range.mp hi
  obtain ⟨m0, hm⟩ : ∃ m0, min (f x) (f y) = m0 := ⟨_, rfl⟩
  rw [hM, hm, Bool.eq_iff_iff]
  by_cases c : f i = (M : Int)
  · have d1 : ¬ (m0 = (i : Int)) := fun e => by
      have hh : f i = (i : Int) := by
        rcases Int.le_total (f x) (f y) with l | l
        · exact (own x hx i (by omega)).2
        · exact (own y hy i (by omega)).2
      omega
    simp [c, d1]
    omega
  · by_cases c2 : i = M
    · subst c2; exact absurd hMn.2 c
    · simp [c, c2]
theorem cyc_snoc_iff {E : Ed} {a b : Int} : Cyc (E ++ [(a, b)]) ↔ Cyc E ∨ Rch E a b :=
  ⟨cyc_snoc, fun h => h.elim cyc_mono fun r => ⟨E, a, b, [], rfl, r⟩⟩
/-- ties within n places -/
def InE (n : Nat) (E : Ed) : Prop := ∀ e ∈ E, ∃ a b : Nat, e = ((a : Int), (b : Int)) ∧ a < n ∧ b < n
theorem fil_t {α : Type} {l : List α} : l.filter (fun _ => true) = l := List.filter_eq_self.mpr fun _ _ => rfl
theorem cyc_cnt {n : Nat} {F : Ed} : InE n F.reverse → ∃ f, Mk F.reverse n f ∧ n ≤ cnt f n + F.length ∧ (Cyc F.reverse ↔ n < cnt f n + F.length) := by
  induction F with
  | nil =>
    intro _
    refine ⟨_, mk_nil, ?_, ?_⟩
    · simp [cnt, fil_t]
    · simp [cnt, cyc_nil, fil_t]
  | cons e F ih =>
    intro h
    rw [List.reverse_cons] at h ⊢
    obtain ⟨f, hf, h1, h2⟩ := ih fun x hx => h x (List.mem_append_left _ hx)
    obtain ⟨a, b, rfl, ha, hb⟩ := h e (by simp)
    rw [cyc_snoc_iff, List.length_cons]
    by_cases r : Rch F.reverse (a : Int) (b : Int)
    · exact ⟨f, hf.cong (rch_same r), by omega, ⟨fun _ => by omega, fun _ => .inr r⟩⟩
    · have := cnt_more hf ha hb r
      refine ⟨_, hf.more ha hb, by omega, ?_⟩
      constructor
      · rintro (c | c)
        · have := h2.mp c; omega
        · exact absurd c r
      · intro c
        exact .inl (h2.mpr (by omega))
/-- there is a ring just where the ties are more than the places less the pieces -/
theorem cyc_iff {n : Nat} {E : Ed} {f : Nat → Int} (h : InE n E) (hf : Mk E n f) : n ≤ cnt f n + E.length ∧ (Cyc E ↔ n < cnt f n + E.length) := by
  have := cyc_cnt (n := n) (F := E.reverse) (by rw [List.reverse_reverse]; exact h)
  rw [List.reverse_reverse] at this
  obtain ⟨g, hg, h1, h2⟩ := this
  rw [hf.cnt hg]
  rw [List.length_reverse] at h1 h2
  exact ⟨h1, h2⟩
end Df

namespace Dv
open PySem PySem.Spec PyProof.Rows L2 Df
theorem str_nd {l : List D} (h : Str_ l) : l.Nodup := str_nodup h
/-! ### sorted_ties, is_tie, is_web, web_of -/
noncomputable def isTieF (iQ : Nat) : DenS := (sRet (dAndV (dCallF iQ 2 (dCons (dOp ixD (dVar 0) (dC (.int 0))) (dCons (dVar 1) dNil))) (dOp inD (dVar 1) (dOp ixD (dVar 0) (dC (.int 1))))))
section
variable {bs : Bodies} {iW iP iQ iR iS iK iB iO m : Nat} {S : Sto}
end
end Dv

namespace Dv
open PySem PySem.Spec PyProof.Rows L2 Df
/-! ### pens of any sort -/
/-- a pen of this sort stands at r -/
def PnG (K : O → Prop) (S : Sto) (r : Nat) : Prop := ∃ o, S[r]? = some o ∧ K o
structure EvG (K : O → Prop) (r : Nat) (S S' : Sto) : Prop where
  kp : ∀ (j : Nat) o, j ≠ r → S[j]? = some o → S'[j]? = some o
  pn : PnG K S' r
  ln : S.length ≤ S'.length
section
variable {K : O → Prop} {r : Nat} {S S' T : Sto}
theorem PnG.lt (h : PnG K S r) : r < S.length := by
  obtain ⟨o, e, _⟩ := h
  exact (List.getElem?_eq_some_iff.mp e).1
theorem EvG.refl (h : PnG K S r) : EvG K r S S := ⟨fun _ _ _ e => e, h, Nat.le_refl _⟩
theorem EvG.trans {S1 S2 S3 : Sto} (a : EvG K r S1 S2) (b : EvG K r S2 S3) : EvG K r S1 S3 := ⟨fun j o n e => b.kp j o n (a.kp j o n e), b.pn, Nat.le_trans a.ln b.ln⟩
theorem Gw.evg (g : Gw S T) (h : PnG K S r) : EvG K r S T := ⟨fun j o _ e => g.kp j o e, by obtain ⟨o, e, k⟩ := h; exact ⟨o, g.kp _ _ e, k⟩, g.ln⟩
theorem EvG.app (h : PnG K S r) (T : Sto) : EvG K r S (S ++ T) := (Gw.app T).evg h
theorem EvG.app' (h : EvG K r S S') (T : Sto) : EvG K r S (S' ++ T) := h.trans (EvG.app h.pn T)
theorem EvG.gw (h : EvG K r S S') (g : Gw S' T) : EvG K r S T := h.trans (g.evg h.pn)
theorem EvG.put {l : Nat} {o : O} (h : EvG K r S S') (hr : r < S.length) (hl : S.length ≤ l) : EvG K r S (S'.set l o) := by
  refine ⟨fun j u n e => ?_, ?_, by rw [List.length_set]; exact h.ln⟩
  · have hj := (List.getElem?_eq_some_iff.mp e).1
    rw [List.getElem?_set_ne (by omega)]
    exact h.kp j u n e
  · obtain ⟨o, e, k⟩ := h.pn
    exact ⟨o, by rw [List.getElem?_set_ne (by omega)]; exact e, k⟩
/-- what a draw gives -/
def tkP (K : O → Prop) (r : Nat) (S : Sto) (n : Int) (d : D) (S' : Sto) : Prop := ∃ j : Nat, d = .int (j : Int) ∧ (j : Int) < n ∧ EvG K r S S' ∧ S'.length = S.length
/-- the def at iT draws -/
def TakeOk (bs : Bodies) (iT : Nat) (K : O → Prop) : Prop := ∀ (m : Nat) (S : Sto) (r : Nat) (n : Int), 2 ≤ m → PnG K S r → 0 < n → n < 1073741824 → (Phi bs m 0 iT [.ref r, .int n] S).wp (tkP K r S n) noX
/-- something drawn out of a list -/
theorem pick_g {bs : Bodies} {iT m L : Nat} {w : Bool} {xs : List D} {n : Int} {Q : D → Sto → Prop} {W W' : Nat → Sto → Prop} (hT : TakeOk bs iT K) (hm : 2 ≤ m) (hp : PnG K T r) (hL : T[L]? = some (.lst w xs)) (hne : L ≠ r) (hn : n = xs.length) (h0 : 0 < n) (h1 : n < 1073741824)
    (h : ∀ x ∈ xs, ∀ S1, EvG K r T S1 → S1.length = T.length → Q x S1) : (Phi bs m 0 iT [.ref r, .int n] T).wp (bK (opK2 ixD (.ref L)) Q W) W' := by
  refine R.to (hT m T r n hm hp h0 h1) ?_
  rintro d S1 ⟨j, rfl, j1, ev, l1⟩
  show (quiet (ixD (.ref L) (.int j) S1)).wp Q W
  rw [ix_ref, ev.kp L _ hne hL, ixO_l, wQ]
  exact opt_in (by omega) (by omega) fun x hx => h x hx S1 ev l1
end
/-! ### the pen with three numbers -/
def K3 (o : O) : Prop := ∃ a b c : Int, 0 ≤ a ∧ o = .lst true [.int a, .int b, .int c]
noncomputable def take3F : DenS := (sSeq (sSub (dVar 0) (dC (.int 2)) (dOp addD (dOp ixD (dVar 0) (dC (.int 2))) (dC (.int 1))))
    (sSeq (sIf (dBl (dOp gtD (dOp ixD (dVar 0) (dC (.int 0))) (dC (.int 0)))) (sSeq (sAsg (.nm 2) (dOp modD (dOp ixD (dVar 0) (dC (.int 0))) (dVar 1)))
    (sSeq (sSub (dVar 0) (dC (.int 0)) (dOp fdivD (dOp ixD (dVar 0) (dC (.int 0))) (dVar 1)))
    (sRet (dVar 2)))) sNil)
    (sSeq (sAsg (.nm 3) (dOp modD (dOp mulD (dOp addD (dOp addD (dOp ixD (dVar 0) (dC (.int 1))) (dOp mulD (dC (.int 69621)) (dOp ixD (dVar 0) (dC (.int 2))))) (dC (.int 3))) (dC (.int 48271))) (dC (.int 2147483647))))
    (sSeq (sAsg (.nm 3) (dOp modD (dOp addD (dOp addD (dOp mulD (dVar 3) (dVar 3)) (dOp mulD (dC (.int 16807)) (dOp ixD (dVar 0) (dC (.int 2))))) (dC (.int 7))) (dC (.int 2147483629))))
    (sRet (dOp modD (dOp fdivD (dOp modD (dOp mulD (dVar 3) (dOp addD (dOp modD (dVar 3) (dC (.int 65521))) (dC (.int 5)))) (dC (.int 2147483587))) (dC (.int 64))) (dVar 1)))))))
noncomputable def pen3F : DenS := (sSeq (sAsg (.nm 2) (dOp addD (dOp addD (dOp mulD (dOp mulD (dC (.int 50021)) (dVar 1)) (dVar 1)) (dOp mulD (dC (.int 977)) (dVar 1))) (dC (.int 5))))
    (sSeq (sIf (dBl (dOp ltD (dVar 1) (dCl lenD (dCons (dVar 0) dNil)))) (sAsg (.nm 2) (dOp ixD (dVar 0) (dVar 1))) (sIf (dBl (dOp gtD (dCl lenD (dCons (dVar 0) dNil)) (dC (.int 0)))) (sAsg (.nm 2) (dOp addD (dOp mulD (dOp modD (dOp ixD (dVar 0) (dOp modD (dVar 1) (dCl lenD (dCons (dVar 0) dNil)))) (dC (.int 2147483647))) (dOp addD (dVar 1) (dC (.int 3)))) (dOp mulD (dC (.int 7919)) (dVar 1)))) sNil))
    (sSeq (sIf (dBl (dOp geD (dCl absD (dCons (dVar 2) dNil)) (dOp powD (dC (.int 10)) (dC (.int 18))))) (sRet (dLst (dCons (dCl absD (dCons (dVar 2) dNil)) (dCons (dC (.int 0)) (dCons (dC (.int 0)) dNil))))) sNil)
    (sRet (dLst (dCons (dC (.int 0)) (dCons (dOp addD (dOp modD (dVar 2) (dC (.int 2147483629))) (dOp mulD (dC (.int 40013)) (dVar 1))) (dCons (dC (.int 0)) dNil))))))))
@[simp] theorem at2 {x y z : D} {xs : List D} : L2.atI (x :: y :: z :: xs) 2 = some z := L2.atI_nat (j := 2) rfl
@[simp] theorem setO_2 {S : Sto} {i : Nat} {x y z v : D} {xs : List D} : setO i (some (.lst true (x :: y :: z :: xs))) 2 v S = .ok () (S.set i (.lst true (x :: y :: v :: xs))) := by
  unfold setO
  have e : L2.ixN (x :: y :: z :: xs).length 2 = some 2 := by
    unfold L2.ixN
    rw [if_pos (by omega), if_pos (by rw [List.length_cons, List.length_cons, List.length_cons]; omega)]
    rfl
  simp only [e]
  rfl
section
variable {bs : Bodies} {iT iN m : Nat} {S : Sto}
theorem take3_ok (hT : bs[iT]? = some (take3F, 4)) : TakeOk bs iT K3 := by
  rintro m S r n hm ⟨o, e, a, b, c, ha, rfl⟩ h0 h1
  have hr := (List.getElem?_eq_some_iff.mp e).1
  have s1 : ∀ o, (S.set r o)[r]? = some o := fun o => List.getElem?_set_self hr
  have s2 : ∀ o o', ((S.set r o).set r o')[r]? = some o' := fun o o' => List.getElem?_set_self (by rw [List.length_set]; exact hr)
  have ev : ∀ a' b' c' : Int, 0 ≤ a' → EvG K3 r S (S.set r (.lst true [.int a', .int b', .int c'])) := fun a' b' c' h2 => by
    refine ⟨fun j o n e => ?_, ⟨_, s1 _, a', b', c', h2, rfl⟩, by rw [List.length_set]; exact Nat.le_refl _⟩
    rw [List.getElem?_set_ne (Ne.symm n)]
    exact e
  have fin : ∀ (z : Int) (T : Sto), EvG K3 r S T → T.length = S.length → tkP K3 r S n (.int (z % n)) T := fun z T h l => by
    have g0 := Int.emod_nonneg z (show n ≠ 0 by omega)
    have g1 := Int.emod_lt_of_pos z h0
    exact ⟨(z % n).toNat, by rw [Int.toNat_of_nonneg g0], by omega, h, l⟩
  refine wpP hm hT ?_
  by_cases c0 : 0 < a
  · simp [take3F, e, s1, c0, h0, h1]
    exact fin a _ (ev _ _ _ (Int.ediv_nonneg (by omega) (by omega))) (by simp)
  · simp [take3F, e, s1, c0, h0, h1]
    exact ⟨by omega, by omega, fin _ _ (ev _ _ _ ha) (by simp)⟩
def pn3 (S : Sto) (d : D) (S' : Sto) : Prop := d = .ref S.length ∧ ∃ o, K3 o ∧ S' = S ++ [o]
theorem pen3_ok (hN : bs[iN]? = some (pen3F, 3)) (hm : 2 ≤ m) {s : Nat} {w : Bool} {ns : List Int} {k : Int} (h : S[s]? = some (.lst w (ns.map D.int))) (hl : ns.length ≤ 63) (h0 : 0 ≤ k) (h1 : k < 1000) :
    (Phi bs m 0 iN [.ref s, .int k] S).wp (pn3 S) noX := by
  refine wpP hm hN ?_
  have fin : ∀ a b c : Int, 0 ≤ a → pn3 S (.ref S.length) (S ++ [.lst true [.int a, .int b, .int c]]) := fun a b c ha => ⟨rfl, _, ⟨a, b, c, ha, rfl⟩, rfl⟩
  have b1 : -18446744073709551616 < k ∧ k < 18446744073709551616 := by omega
  by_cases c1 : k < ns.length
  · have e : ∃ z, L2.atI (ns.map D.int) k = some (.int z) := by
      rw [at_in h0 (by rw [List.length_map]; exact c1), List.getElem_map]
      exact ⟨_, rfl⟩
    obtain ⟨z, e⟩ := e
    simp [pen3F, h, b1, c1, e]
    exact ⟨fun _ => fin _ _ _ (by split <;> omega), fun _ => fin _ _ _ (by omega)⟩
  · by_cases hn : ns = []
    · subst hn
      simp [pen3F, h, b1]
      exact ⟨by simp at c1; omega, fun _ => ⟨fun _ => fin _ _ _ (by split <;> omega), fun _ => fin _ _ _ (by omega)⟩⟩
    · have hp : 0 < ns.length := List.length_pos_iff.mpr hn
      have b0 := Int.emod_nonneg k (show (ns.length : Int) ≠ 0 by omega)
      have b2 := Int.emod_lt_of_pos k (show (0 : Int) < ns.length by omega)
      have e : ∃ z, L2.atI (ns.map D.int) (k % ns.length) = some (.int z) := by
        rw [at_in b0 (by rw [List.length_map]; exact b2), List.getElem_map]
        exact ⟨_, rfl⟩
      obtain ⟨z, e⟩ := e
      simp [pen3F, h, b1, c1, hp, hn, e]
      exact ⟨by omega, fun _ => fin _ _ _ (by split <;> omega), fun _ => fin _ _ _ (by omega)⟩
end
end Dv

namespace Dv
open PySem PySem.Spec PyProof.Rows L2 Df
/-! ### a frame drawn, ten sorts of places -/
noncomputable def f10B1 : DenS := (sExpr (dMt extendD (dVar 3) (dCons (dLc (iRange2 (dCons (dOp addD (dVar 4) (dC (.int 1))) (dCons (dVar 2) dNil))) (.nm 8) tYesD (dTup (dCons (dVar 4) (dCons (dVar 8) dNil))) [8]) dNil)))
noncomputable def f10B2 (iT : Nat) : DenS := (sExpr (dMt appendD (dVar 6) (dCons (dMt popAtD (dVar 3) (dCons (dCallF iT 2 (dCons (dVar 0) (dCons (dCl lenD (dCons (dVar 3) dNil)) dNil))) dNil)) dNil)))
noncomputable def f10R4 : DenS := (sRet (dTup (dCons (dVar 2) (dCons (dCl tupleD (dCons (dCl sortedD (dCons (dVar 6) dNil)) dNil)) dNil))))
noncomputable def f10R3 (iT : Nat) : DenS := (sSeq (sAsg (.nm 6) (dLst dNil))
    (sSeq (sFor (iRange1 (dCons (dVar 5) dNil)) (.nm 7) (f10B2 iT)) f10R4))
noncomputable def f10R2 (iT : Nat) : DenS := (sSeq (sAsg (.nm 5) (dCl minD (dCons (dCl lenD (dCons (dVar 3) dNil)) (dCons (dCallF iT 2 (dCons (dVar 0) (dCons (dOp addD (dVar 1) (dC (.int 1))) dNil))) dNil))))
    (sSeq (sIf (dBl (dOp eqD (dCallF iT 2 (dCons (dVar 0) (dCons (dC (.int 3)) dNil))) (dC (.int 0)))) (sAsg (.nm 5) (dCl minD (dCons (dCl lenD (dCons (dVar 3) dNil)) (dCons (dVar 1) dNil)))) sNil)
    (f10R3 iT)))
noncomputable def f10R1 (iT : Nat) : DenS := (sSeq (sFor (iRange1 (dCons (dVar 2) dNil)) (.nm 4) f10B1) (f10R2 iT))
noncomputable def f10F (iT : Nat) : DenS := (sSeq (sAsg (.nm 2) (dOp ixD (dLst (dCons (dC (.int 2)) (dCons (dC (.int 3)) (dCons (dC (.int 3)) (dCons (dC (.int 4)) (dCons (dC (.int 4)) (dCons (dC (.int 5)) (dCons (dC (.int 1)) (dCons (dC (.int 8)) (dCons (dC (.int 6)) (dCons (dC (.int 7)) dNil))))))))))) (dCallF iT 2 (dCons (dVar 0) (dCons (dC (.int 10)) dNil)))))
    (sSeq (sAsg (.nm 3) (dLst dNil)) (f10R1 iT)))
def fr (n : Nat) (ts : List D) : D := .tup [.int (n : Int), .tup ts]
/-- a frame of n places with the ties ts -/
structure Frm (n : Nat) (ts : List D) : Prop where
  n1 : 1 ≤ n
  n8 : n ≤ 8
  st : Str_ ts
  it : ∀ y ∈ ts, isTie (n : Int) y = true
  l7 : ts.length ≤ 7
theorem Frm.tw {n : Nat} {ts : List D} (h : Frm n ts) : TW n ts := ⟨h.it, str_nd h.st, h.l7⟩
theorem Frm.b {n : Nat} {ts : List D} (h : Frm n ts) : AllB ts := inn_b h.tw.inn h.n8
theorem Frm.dst {n : Nat} {ts : List D} (h : Frm n ts) : Dst ts := str_dst h.st
def frG (K : O → Prop) (S : Sto) (r : Nat) (d : D) (S' : Sto) : Prop := ∃ (n : Nat) (ts : List D), d = fr n ts ∧ Frm n ts ∧ EvG K r S S'
section
variable {bs : Bodies} {K : O → Prop} {iT iF m r : Nat} {S : Sto}
def lfJ (c n : Nat) (y : D) : Prop := ∃ i j : Nat, y = .tup [.int (i : Int), .int (j : Int)] ∧ i < c ∧ i < j ∧ j < n
def f10J1 (K : O → Prop) (S : Sto) (r n l : Nat) (d1 : D) (xs : List D) (ρ : Dv.Env) (T : Sto) : Prop := ∃ (o4 : Option D) (c k : Nat) (ys : List D), ρ = [some (.ref r), some d1, some (.int (n : Int)), some (.ref l), o4, none, none, none, none] ∧ xs = (List.range' c k).map iD ∧ c + k = n ∧ T[l]? = some (.lst true ys) ∧ ys.Nodup ∧ (∀ y ∈ ys, lfJ c n y) ∧ ys.length ≤ 8 * c ∧ EvG K r S T
def f10J2 (K : O → Prop) (S : Sto) (r n l t q : Nat) (d1 : D) (o4 o5 : Option D) (xs : List D) (ρ : Dv.Env) (T : Sto) : Prop := ∃ (o7 : Option D) (ys ts : List D), ρ = [some (.ref r), some d1, some (.int (n : Int)), some (.ref l), o4, o5, some (.ref t), o7, none] ∧ T[l]? = some (.lst true ys) ∧ T[t]? = some (.lst true ts) ∧ (ys ++ ts).Nodup ∧ (∀ y ∈ ys ++ ts, lfJ n n y) ∧ xs.length ≤ ys.length ∧ ys.length ≤ 64 ∧ ts.length + xs.length ≤ q ∧ EvG K r S T
theorem lf_tie {n : Nat} {y : D} (h : lfJ n n y) : isTie (n : Int) y = true := by
  obtain ⟨i, j, rfl, h1, h2, h3⟩ := h
  exact decide_eq_true (by omega)
theorem f10R3_ok {F : DenS} (hF : F = f10R3 iT) (hT : TakeOk bs iT K) (hm : 2 ≤ m) (hp : PnG K S r) {n l q : Nat} (n1 : 1 ≤ n) (n8 : n ≤ 8) {d1 : D} {o4 : Option D} {ys : List D} {T : Sto} (hl : T[l]? = some (.lst true ys)) (nd : ys.Nodup) (lf : ∀ y ∈ ys, lfJ n n y) (l64 : ys.length ≤ 64) (q7 : q ≤ 7) (ql : q ≤ ys.length) (sl : S.length ≤ l) (ev : EvG K r S T) :
    (F (Phi bs m) [some (.ref r), some d1, some (.int (n : Int)), some (.ref l), o4, some (.int (q : Int)), none, none, none] T).wp (FlR (frG K S r) noX) noX := by
  subst hF
  have hr := hp.lt
  have ltl := (List.getElem?_eq_some_iff.mp hl).1
  unfold f10R3
  simp
  refine ⟨by omega, ?_⟩
  refine for_inv (f10J2 K S r n l T.length q d1 o4 (some (.int (q : Int)))) ?_ ?_ _ _ _ ?_
  · rintro x xs ρ T2 ⟨o7, ys2, ts, rfl, hl2, ht2, nd2, lf2, b1, b2, b3, ev2⟩
    refine ⟨trivial, _, rfl, ?_⟩
    rw [List.length_cons] at b1 b3
    have lT := ev.ln
    simp [f10B2, ht2, hl2]
    refine R.to (hT _ _ r (ys2.length : Int) hm ev2.pn (by omega) (by omega)) ?_
    rintro d T3 ⟨j, rfl, j1, ev3, l3⟩
    have hl3 := ev3.kp _ _ (by omega) hl2
    have ht3 := ev3.kp _ _ (by omega) ht2
    simp [hl3]
    rw [popO_in (by omega) j1 (by omega)]
    have ne : l ≠ T.length := by omega
    simp [List.getElem?_set_ne ne, ht3]
    have ltl3 : l < T3.length := (List.getElem?_eq_some_iff.mp hl3).1
    have ltt3 : T.length < T3.length := (List.getElem?_eq_some_iff.mp ht3).1
    have jl : j < ys2.length := by omega
    have hlen : (ys2.eraseIdx j).length = ys2.length - 1 := List.length_eraseIdx_of_lt jl
    have pm : (ys2.eraseIdx j ++ (ts ++ [ys2[j]])).Perm (ys2 ++ ts) := by
      have q : (ys2[j] :: ys2.eraseIdx j).Perm ys2 := er_perm jl
      have q2 := q.append_right ts
      refine List.Perm.trans ?_ q2
      rw [← List.append_assoc]
      exact List.perm_append_singleton _ _
    refine ⟨by omega, _, ys2.eraseIdx j, ts ++ [ys2[j]], rfl, ?_, ?_, pm.nodup_iff.mpr nd2, fun y hy => lf2 y (pm.mem_iff.mp hy), by omega, by omega, by rw [List.length_append, List.length_singleton]; omega, ((ev2.trans ev3).put hr (by omega)).put hr (by omega)⟩
    · rw [List.getElem?_set_ne (Ne.symm ne), List.getElem?_set_self ltl3]
    · rw [List.getElem?_set_self (by rw [List.length_set]; exact ltt3)]
  · rintro ρ T2 ⟨o7, ys2, ts, rfl, hl2, ht2, nd2, lf2, b1, b2, b3, ev2⟩
    refine ⟨trivial, ?_⟩
    have ti : ∀ y ∈ ts, isTie (n : Int) y = true := fun y hy => lf_tie (lf2 y (List.mem_append_right _ hy))
    have pt : AllPr ts := fun y hy => tie_isPr (ti y hy)
    have pl := (isort_perm (lt := ltK) ts).length_eq
    simp at b3
    simp [f10R4, ht2]
    exact ⟨⟨pt, by omega⟩, by omega, n, _, rfl, ⟨n1, n8, isort_str pt (List.nodup_append.mp nd2).2.1, fun y hy => ti y ((isort_perm ts).mem_iff.mp hy), by omega⟩, ev2.app' _⟩
  · refine ⟨_, ys, [], rfl, ?_, by simp, by simpa using nd, fun y hy => lf y (by simpa using hy), ?_, l64, ?_, ev.app' _⟩
    · rw [List.getElem?_append_left ltl]; exact hl
    · rw [rng_len]; omega
    · rw [rng_len, List.length_nil]; omega
theorem f10R2_ok {F : DenS} (hF : F = f10R2 iT) (hT : TakeOk bs iT K) (hm : 2 ≤ m) (hp : PnG K S r) {n l q : Nat} (n1 : 1 ≤ n) (n8 : n ≤ 8) (q7 : q ≤ 7) {o4 : Option D} {ys : List D} {T : Sto} (hl : T[l]? = some (.lst true ys)) (nd : ys.Nodup) (lf : ∀ y ∈ ys, lfJ n n y) (l64 : ys.length ≤ 64) (sl : S.length ≤ l) (ev : EvG K r S T) :
    (F (Phi bs m) [some (.ref r), some (.int (q : Int)), some (.int (n : Int)), some (.ref l), o4, none, none, none, none] T).wp (FlR (frG K S r) noX) noX := by
  subst hF
  have hr := hp.lt
  unfold f10R2
  generalize hF : f10R3 iT = F
  simp [hl]
  refine R.to (hT _ _ r ((q : Int) + 1) hm ev.pn (by omega) (by omega)) ?_
  rintro d T1 ⟨j, rfl, j1, ev1, l1⟩
  simp
  refine R.to (hT _ _ r 3 hm ev1.pn (by omega) (by omega)) ?_
  rintro d T2 ⟨j2, rfl, j21, ev2, l2⟩
  have ev12 := ev.trans (ev1.trans ev2)
  have hl2 := ev2.kp _ _ (by omega) (ev1.kp _ _ (by omega) hl)
  have key : ∀ k : Int, 0 ≤ k → k ≤ 7 → k ≤ ys.length → (F (Phi bs m) [some (.ref r), some (.int (q : Int)), some (.int (n : Int)), some (.ref l), o4, some (.int k), none, none, none] T2).wp (FlR (frG K S r) noX) noX := fun k k0 k7 kl => by
    obtain ⟨k, rfl⟩ : ∃ k' : Nat, k = (k' : Int) := ⟨k.toNat, by omega⟩
    exact f10R3_ok hF.symm hT hm hp n1 n8 hl2 nd lf l64 (by omega) (by omega) sl ev12
  by_cases c : j2 = 0
  · subst c
    simp [hl2]
    refine key _ ?_ ?_ ?_ <;> split <;> omega
  · simp [c]
    refine key _ ?_ ?_ ?_ <;> split <;> omega
theorem f10_ok (hT : TakeOk bs iT K) (hF : bs[iF]? = some (f10F iT, 9)) (hm : 3 ≤ m) (hp : PnG K S r) {q : Nat} (q7 : q ≤ 7) : (Phi bs m 0 iF [.ref r, .int (q : Int)] S).wp (frG K S r) noX := by
  refine wpP (by omega) hF ?_
  have hr := hp.lt
  unfold f10F
  generalize hG : f10R1 iT = G
  simp
  refine pick_g hT (by omega) (EvG.app hp _).pn at_a0 (by omega) rfl (by simp) (by simp) fun x hx T1 ev1 l1 => ?_
  have ev0 := (EvG.app hp _).trans ev1
  obtain ⟨n, rfl, n1, n8⟩ : ∃ n : Nat, x = .int (n : Int) ∧ 1 ≤ n ∧ n ≤ 8 := by
    simp only [List.mem_cons, List.not_mem_nil, or_false] at hx
    rcases hx with rfl | rfl | rfl | rfl | rfl | rfl | rfl | rfl | rfl | rfl <;> first | exact ⟨1, rfl, by omega, by omega⟩ | exact ⟨2, rfl, by omega, by omega⟩ | exact ⟨3, rfl, by omega, by omega⟩ | exact ⟨4, rfl, by omega, by omega⟩ | exact ⟨5, rfl, by omega, by omega⟩ | exact ⟨6, rfl, by omega, by omega⟩ | exact ⟨7, rfl, by omega, by omega⟩ | exact ⟨8, rfl, by omega, by omega⟩
  simp
  subst hG
  unfold f10R1
  generalize hG : f10R2 iT = G
  simp
  refine ⟨by omega, ?_⟩
  have l0 : S.length ≤ T1.length := ev0.ln
  refine for_inv (f10J1 K S r n T1.length (.int (q : Int))) ?_ ?_ _ _ _ ?_
  · rintro x xs ρ T ⟨o4, c, k, ys, rfl, ex, ck, hl, nd, lf, bd, ev⟩
    obtain ⟨k, rfl, rfl, rfl⟩ := rng_cons ex
    refine ⟨trivial, _, rfl, ?_⟩
    have ltl := (List.getElem?_eq_some_iff.mp hl).1
    simp [f10B1, hl, iD, wipeE]
    refine ⟨by omega, ?_⟩
    rw [lc_pure (p := fun _ => true) (g := fun y => .tup [.int (c : Int), y]) (fun acc => trivial) (fun w hw => ⟨_, rfl, fun acc => ⟨rfl, fun _ => R.eq_of (by simp)⟩⟩) (by rw [rng_len]; simp; omega)]
    have fl : ∀ (l : List D), l.filter (fun _ => true) = l := fun l => List.filter_eq_self.mpr fun _ _ => rfl
    have hla : ∀ W : Sto, (T ++ W)[T1.length]? = some (.lst true ys) := fun W => by rw [List.getElem?_append_left ltl]; exact hl
    obtain ⟨zs, hzs⟩ : ∃ zs, ((Src.rng ((c : Int) + 1) ((n : Int) - ((c : Int) + 1)).toNat).items.map fun y => D.tup [.int (c : Int), y]) = zs := ⟨_, rfl⟩
    have lz : zs.length ≤ 8 := by rw [← hzs, List.length_map, rng_len]; omega
    have mz : ∀ y ∈ zs, ∃ j : Nat, y = .tup [.int (c : Int), .int (j : Int)] ∧ c < j ∧ j < n := fun y hy => by
      rw [← hzs] at hy
      obtain ⟨x, hx, rfl⟩ := List.mem_map.mp hy
      obtain ⟨k', hk', rfl⟩ := rng_mem hx
      exact ⟨c + 1 + k', by congr 3, by omega, by omega⟩
    have nz : zs.Nodup := by
      rw [← hzs]
      unfold Src.items List.Nodup
      rw [List.map_map, List.pairwise_map]
      refine List.pairwise_lt_range.imp fun {a b} h e => ?_
      simp at e
      omega
    simp [fl, hzs, hla]
    refine ⟨by omega, _, c + 1, k, ys ++ zs, rfl, rfl, by omega, List.getElem?_set_self (by simp; omega), ?_, fun y hy => ?_, by rw [List.length_append]; omega, (ev.app' _).put hr l0⟩
    · refine List.nodup_append.mpr ⟨nd, nz, fun a ha b hb e => ?_⟩
      obtain ⟨i, j, rfl, h1, _⟩ := lf a ha
      obtain ⟨j', rfl, _⟩ := mz b hb
      cases e
      omega
    · rcases List.mem_append.mp hy with z | z
      · obtain ⟨i, j, rfl, h1, h2, h3⟩ := lf y z
        exact ⟨i, j, rfl, by omega, h2, h3⟩
      · obtain ⟨j, rfl, h1, h2⟩ := mz y z
        exact ⟨c, j, rfl, by omega, h1, h2⟩
  · rintro ρ T ⟨o4, c, k, ys, rfl, ex, ck, hl, nd, lf, bd, ev⟩
    have k0 := rng_nil ex
    refine ⟨trivial, ?_⟩
    simp
    have cn : c = n := by omega
    subst cn
    exact f10R2_ok hG.symm hT (by omega) hp n1 n8 q7 hl nd lf (by omega) l0 ev
  · exact ⟨none, 0, n, [], rfl, rng_items, by omega, by simp, List.nodup_nil, fun y hy => (nomatch hy), by simp, ev0.app' _⟩
end
end Dv

namespace Dv
open PySem
/-! ### words are unlike -/
@[simp] theorem w_odd_joined : (Str.ofString "odd" = Str.ofString "joined") = False := by decide +kernel
@[simp] theorem w_odd_ring : (Str.ofString "odd" = Str.ofString "ring") = False := by decide +kernel
@[simp] theorem w_odd_three : (Str.ofString "odd" = Str.ofString "three") = False := by decide +kernel
@[simp] theorem w_odd_hub : (Str.ofString "odd" = Str.ofString "hub") = False := by decide +kernel
@[simp] theorem w_odd_lone : (Str.ofString "odd" = Str.ofString "lone") = False := by decide +kernel
@[simp] theorem w_odd_sides : (Str.ofString "odd" = Str.ofString "sides") = False := by decide +kernel
@[simp] theorem w_odd_tie : (Str.ofString "odd" = Str.ofString "tie") = False := by decide +kernel
@[simp] theorem w_odd_many : (Str.ofString "odd" = Str.ofString "many") = False := by decide +kernel
@[simp] theorem w_odd_way : (Str.ofString "odd" = Str.ofString "way") = False := by decide +kernel
@[simp] theorem w_odd_ends : (Str.ofString "odd" = Str.ofString "ends") = False := by decide +kernel
@[simp] theorem w_odd_told : (Str.ofString "odd" = Str.ofString "told") = False := by decide +kernel
@[simp] theorem w_odd_not : (Str.ofString "odd" = Str.ofString "not") = False := by decide +kernel
@[simp] theorem w_odd_missing : (Str.ofString "odd" = Str.ofString "missing") = False := by decide +kernel
@[simp] theorem w_odd_both : (Str.ofString "odd" = Str.ofString "both") = False := by decide +kernel
@[simp] theorem w_odd_either : (Str.ofString "odd" = Str.ofString "either") = False := by decide +kernel
@[simp] theorem w_odd_one : (Str.ofString "odd" = Str.ofString "one") = False := by decide +kernel
@[simp] theorem w_odd_lots : (Str.ofString "odd" = Str.ofString "lots") = False := by decide +kernel
@[simp] theorem w_odd_words : (Str.ofString "odd" = Str.ofString "words") = False := by decide +kernel
@[simp] theorem w_odd_web : (Str.ofString "odd" = Str.ofString "web") = False := by decide +kernel
@[simp] theorem w_joined_odd : (Str.ofString "joined" = Str.ofString "odd") = False := by decide +kernel
@[simp] theorem w_joined_ring : (Str.ofString "joined" = Str.ofString "ring") = False := by decide +kernel
@[simp] theorem w_joined_three : (Str.ofString "joined" = Str.ofString "three") = False := by decide +kernel
@[simp] theorem w_joined_hub : (Str.ofString "joined" = Str.ofString "hub") = False := by decide +kernel
@[simp] theorem w_joined_lone : (Str.ofString "joined" = Str.ofString "lone") = False := by decide +kernel
@[simp] theorem w_joined_sides : (Str.ofString "joined" = Str.ofString "sides") = False := by decide +kernel
@[simp] theorem w_joined_tie : (Str.ofString "joined" = Str.ofString "tie") = False := by decide +kernel
@[simp] theorem w_joined_many : (Str.ofString "joined" = Str.ofString "many") = False := by decide +kernel
@[simp] theorem w_joined_way : (Str.ofString "joined" = Str.ofString "way") = False := by decide +kernel
@[simp] theorem w_joined_ends : (Str.ofString "joined" = Str.ofString "ends") = False := by decide +kernel
@[simp] theorem w_joined_told : (Str.ofString "joined" = Str.ofString "told") = False := by decide +kernel
@[simp] theorem w_joined_not : (Str.ofString "joined" = Str.ofString "not") = False := by decide +kernel
@[simp] theorem w_joined_missing : (Str.ofString "joined" = Str.ofString "missing") = False := by decide +kernel
@[simp] theorem w_joined_both : (Str.ofString "joined" = Str.ofString "both") = False := by decide +kernel
@[simp] theorem w_joined_either : (Str.ofString "joined" = Str.ofString "either") = False := by decide +kernel
@[simp] theorem w_joined_one : (Str.ofString "joined" = Str.ofString "one") = False := by decide +kernel
@[simp] theorem w_joined_lots : (Str.ofString "joined" = Str.ofString "lots") = False := by decide +kernel
@[simp] theorem w_joined_words : (Str.ofString "joined" = Str.ofString "words") = False := by decide +kernel
@[simp] theorem w_joined_web : (Str.ofString "joined" = Str.ofString "web") = False := by decide +kernel
@[simp] theorem w_ring_odd : (Str.ofString "ring" = Str.ofString "odd") = False := by decide +kernel
@[simp] theorem w_ring_joined : (Str.ofString "ring" = Str.ofString "joined") = False := by decide +kernel
@[simp] theorem w_ring_three : (Str.ofString "ring" = Str.ofString "three") = False := by decide +kernel
@[simp] theorem w_ring_hub : (Str.ofString "ring" = Str.ofString "hub") = False := by decide +kernel
@[simp] theorem w_ring_lone : (Str.ofString "ring" = Str.ofString "lone") = False := by decide +kernel
@[simp] theorem w_ring_sides : (Str.ofString "ring" = Str.ofString "sides") = False := by decide +kernel
@[simp] theorem w_ring_tie : (Str.ofString "ring" = Str.ofString "tie") = False := by decide +kernel
@[simp] theorem w_ring_many : (Str.ofString "ring" = Str.ofString "many") = False := by decide +kernel
@[simp] theorem w_ring_way : (Str.ofString "ring" = Str.ofString "way") = False := by decide +kernel
@[simp] theorem w_ring_ends : (Str.ofString "ring" = Str.ofString "ends") = False := by decide +kernel
@[simp] theorem w_ring_told : (Str.ofString "ring" = Str.ofString "told") = False := by decide +kernel
@[simp] theorem w_ring_not : (Str.ofString "ring" = Str.ofString "not") = False := by decide +kernel
@[simp] theorem w_ring_missing : (Str.ofString "ring" = Str.ofString "missing") = False := by decide +kernel
@[simp] theorem w_ring_both : (Str.ofString "ring" = Str.ofString "both") = False := by decide +kernel
@[simp] theorem w_ring_either : (Str.ofString "ring" = Str.ofString "either") = False := by decide +kernel
@[simp] theorem w_ring_one : (Str.ofString "ring" = Str.ofString "one") = False := by decide +kernel
@[simp] theorem w_ring_lots : (Str.ofString "ring" = Str.ofString "lots") = False := by decide +kernel
@[simp] theorem w_ring_words : (Str.ofString "ring" = Str.ofString "words") = False := by decide +kernel
@[simp] theorem w_ring_web : (Str.ofString "ring" = Str.ofString "web") = False := by decide +kernel
@[simp] theorem w_three_odd : (Str.ofString "three" = Str.ofString "odd") = False := by decide +kernel
@[simp] theorem w_three_joined : (Str.ofString "three" = Str.ofString "joined") = False := by decide +kernel
@[simp] theorem w_three_ring : (Str.ofString "three" = Str.ofString "ring") = False := by decide +kernel
@[simp] theorem w_three_hub : (Str.ofString "three" = Str.ofString "hub") = False := by decide +kernel
@[simp] theorem w_three_lone : (Str.ofString "three" = Str.ofString "lone") = False := by decide +kernel
@[simp] theorem w_three_sides : (Str.ofString "three" = Str.ofString "sides") = False := by decide +kernel
@[simp] theorem w_three_tie : (Str.ofString "three" = Str.ofString "tie") = False := by decide +kernel
@[simp] theorem w_three_many : (Str.ofString "three" = Str.ofString "many") = False := by decide +kernel
@[simp] theorem w_three_way : (Str.ofString "three" = Str.ofString "way") = False := by decide +kernel
@[simp] theorem w_three_ends : (Str.ofString "three" = Str.ofString "ends") = False := by decide +kernel
@[simp] theorem w_three_told : (Str.ofString "three" = Str.ofString "told") = False := by decide +kernel
@[simp] theorem w_three_not : (Str.ofString "three" = Str.ofString "not") = False := by decide +kernel
@[simp] theorem w_three_missing : (Str.ofString "three" = Str.ofString "missing") = False := by decide +kernel
@[simp] theorem w_three_both : (Str.ofString "three" = Str.ofString "both") = False := by decide +kernel
@[simp] theorem w_three_either : (Str.ofString "three" = Str.ofString "either") = False := by decide +kernel
@[simp] theorem w_three_one : (Str.ofString "three" = Str.ofString "one") = False := by decide +kernel
@[simp] theorem w_three_lots : (Str.ofString "three" = Str.ofString "lots") = False := by decide +kernel
@[simp] theorem w_three_words : (Str.ofString "three" = Str.ofString "words") = False := by decide +kernel
@[simp] theorem w_three_web : (Str.ofString "three" = Str.ofString "web") = False := by decide +kernel
@[simp] theorem w_hub_odd : (Str.ofString "hub" = Str.ofString "odd") = False := by decide +kernel
@[simp] theorem w_hub_joined : (Str.ofString "hub" = Str.ofString "joined") = False := by decide +kernel
@[simp] theorem w_hub_ring : (Str.ofString "hub" = Str.ofString "ring") = False := by decide +kernel
@[simp] theorem w_hub_three : (Str.ofString "hub" = Str.ofString "three") = False := by decide +kernel
@[simp] theorem w_hub_lone : (Str.ofString "hub" = Str.ofString "lone") = False := by decide +kernel
@[simp] theorem w_hub_sides : (Str.ofString "hub" = Str.ofString "sides") = False := by decide +kernel
@[simp] theorem w_hub_tie : (Str.ofString "hub" = Str.ofString "tie") = False := by decide +kernel
@[simp] theorem w_hub_many : (Str.ofString "hub" = Str.ofString "many") = False := by decide +kernel
@[simp] theorem w_hub_way : (Str.ofString "hub" = Str.ofString "way") = False := by decide +kernel
@[simp] theorem w_hub_ends : (Str.ofString "hub" = Str.ofString "ends") = False := by decide +kernel
@[simp] theorem w_hub_told : (Str.ofString "hub" = Str.ofString "told") = False := by decide +kernel
@[simp] theorem w_hub_not : (Str.ofString "hub" = Str.ofString "not") = False := by decide +kernel
@[simp] theorem w_hub_missing : (Str.ofString "hub" = Str.ofString "missing") = False := by decide +kernel
@[simp] theorem w_hub_both : (Str.ofString "hub" = Str.ofString "both") = False := by decide +kernel
@[simp] theorem w_hub_either : (Str.ofString "hub" = Str.ofString "either") = False := by decide +kernel
@[simp] theorem w_hub_one : (Str.ofString "hub" = Str.ofString "one") = False := by decide +kernel
@[simp] theorem w_hub_lots : (Str.ofString "hub" = Str.ofString "lots") = False := by decide +kernel
@[simp] theorem w_hub_words : (Str.ofString "hub" = Str.ofString "words") = False := by decide +kernel
@[simp] theorem w_hub_web : (Str.ofString "hub" = Str.ofString "web") = False := by decide +kernel
@[simp] theorem w_lone_odd : (Str.ofString "lone" = Str.ofString "odd") = False := by decide +kernel
@[simp] theorem w_lone_joined : (Str.ofString "lone" = Str.ofString "joined") = False := by decide +kernel
@[simp] theorem w_lone_ring : (Str.ofString "lone" = Str.ofString "ring") = False := by decide +kernel
@[simp] theorem w_lone_three : (Str.ofString "lone" = Str.ofString "three") = False := by decide +kernel
@[simp] theorem w_lone_hub : (Str.ofString "lone" = Str.ofString "hub") = False := by decide +kernel
@[simp] theorem w_lone_sides : (Str.ofString "lone" = Str.ofString "sides") = False := by decide +kernel
@[simp] theorem w_lone_tie : (Str.ofString "lone" = Str.ofString "tie") = False := by decide +kernel
@[simp] theorem w_lone_many : (Str.ofString "lone" = Str.ofString "many") = False := by decide +kernel
@[simp] theorem w_lone_way : (Str.ofString "lone" = Str.ofString "way") = False := by decide +kernel
@[simp] theorem w_lone_ends : (Str.ofString "lone" = Str.ofString "ends") = False := by decide +kernel
@[simp] theorem w_lone_told : (Str.ofString "lone" = Str.ofString "told") = False := by decide +kernel
@[simp] theorem w_lone_not : (Str.ofString "lone" = Str.ofString "not") = False := by decide +kernel
@[simp] theorem w_lone_missing : (Str.ofString "lone" = Str.ofString "missing") = False := by decide +kernel
@[simp] theorem w_lone_both : (Str.ofString "lone" = Str.ofString "both") = False := by decide +kernel
@[simp] theorem w_lone_either : (Str.ofString "lone" = Str.ofString "either") = False := by decide +kernel
@[simp] theorem w_lone_one : (Str.ofString "lone" = Str.ofString "one") = False := by decide +kernel
@[simp] theorem w_lone_lots : (Str.ofString "lone" = Str.ofString "lots") = False := by decide +kernel
@[simp] theorem w_lone_words : (Str.ofString "lone" = Str.ofString "words") = False := by decide +kernel
@[simp] theorem w_lone_web : (Str.ofString "lone" = Str.ofString "web") = False := by decide +kernel
@[simp] theorem w_sides_odd : (Str.ofString "sides" = Str.ofString "odd") = False := by decide +kernel
@[simp] theorem w_sides_joined : (Str.ofString "sides" = Str.ofString "joined") = False := by decide +kernel
@[simp] theorem w_sides_ring : (Str.ofString "sides" = Str.ofString "ring") = False := by decide +kernel
@[simp] theorem w_sides_three : (Str.ofString "sides" = Str.ofString "three") = False := by decide +kernel
@[simp] theorem w_sides_hub : (Str.ofString "sides" = Str.ofString "hub") = False := by decide +kernel
@[simp] theorem w_sides_lone : (Str.ofString "sides" = Str.ofString "lone") = False := by decide +kernel
@[simp] theorem w_sides_tie : (Str.ofString "sides" = Str.ofString "tie") = False := by decide +kernel
@[simp] theorem w_sides_many : (Str.ofString "sides" = Str.ofString "many") = False := by decide +kernel
@[simp] theorem w_sides_way : (Str.ofString "sides" = Str.ofString "way") = False := by decide +kernel
@[simp] theorem w_sides_ends : (Str.ofString "sides" = Str.ofString "ends") = False := by decide +kernel
@[simp] theorem w_sides_told : (Str.ofString "sides" = Str.ofString "told") = False := by decide +kernel
@[simp] theorem w_sides_not : (Str.ofString "sides" = Str.ofString "not") = False := by decide +kernel
@[simp] theorem w_sides_missing : (Str.ofString "sides" = Str.ofString "missing") = False := by decide +kernel
@[simp] theorem w_sides_both : (Str.ofString "sides" = Str.ofString "both") = False := by decide +kernel
@[simp] theorem w_sides_either : (Str.ofString "sides" = Str.ofString "either") = False := by decide +kernel
@[simp] theorem w_sides_one : (Str.ofString "sides" = Str.ofString "one") = False := by decide +kernel
@[simp] theorem w_sides_lots : (Str.ofString "sides" = Str.ofString "lots") = False := by decide +kernel
@[simp] theorem w_sides_words : (Str.ofString "sides" = Str.ofString "words") = False := by decide +kernel
@[simp] theorem w_sides_web : (Str.ofString "sides" = Str.ofString "web") = False := by decide +kernel
@[simp] theorem w_tie_odd : (Str.ofString "tie" = Str.ofString "odd") = False := by decide +kernel
@[simp] theorem w_tie_joined : (Str.ofString "tie" = Str.ofString "joined") = False := by decide +kernel
@[simp] theorem w_tie_ring : (Str.ofString "tie" = Str.ofString "ring") = False := by decide +kernel
@[simp] theorem w_tie_three : (Str.ofString "tie" = Str.ofString "three") = False := by decide +kernel
@[simp] theorem w_tie_hub : (Str.ofString "tie" = Str.ofString "hub") = False := by decide +kernel
@[simp] theorem w_tie_lone : (Str.ofString "tie" = Str.ofString "lone") = False := by decide +kernel
@[simp] theorem w_tie_sides : (Str.ofString "tie" = Str.ofString "sides") = False := by decide +kernel
@[simp] theorem w_tie_many : (Str.ofString "tie" = Str.ofString "many") = False := by decide +kernel
@[simp] theorem w_tie_way : (Str.ofString "tie" = Str.ofString "way") = False := by decide +kernel
@[simp] theorem w_tie_ends : (Str.ofString "tie" = Str.ofString "ends") = False := by decide +kernel
@[simp] theorem w_tie_told : (Str.ofString "tie" = Str.ofString "told") = False := by decide +kernel
@[simp] theorem w_tie_not : (Str.ofString "tie" = Str.ofString "not") = False := by decide +kernel
@[simp] theorem w_tie_missing : (Str.ofString "tie" = Str.ofString "missing") = False := by decide +kernel
@[simp] theorem w_tie_both : (Str.ofString "tie" = Str.ofString "both") = False := by decide +kernel
@[simp] theorem w_tie_either : (Str.ofString "tie" = Str.ofString "either") = False := by decide +kernel
@[simp] theorem w_tie_one : (Str.ofString "tie" = Str.ofString "one") = False := by decide +kernel
@[simp] theorem w_tie_lots : (Str.ofString "tie" = Str.ofString "lots") = False := by decide +kernel
@[simp] theorem w_tie_words : (Str.ofString "tie" = Str.ofString "words") = False := by decide +kernel
@[simp] theorem w_tie_web : (Str.ofString "tie" = Str.ofString "web") = False := by decide +kernel
@[simp] theorem w_many_odd : (Str.ofString "many" = Str.ofString "odd") = False := by decide +kernel
@[simp] theorem w_many_joined : (Str.ofString "many" = Str.ofString "joined") = False := by decide +kernel
@[simp] theorem w_many_ring : (Str.ofString "many" = Str.ofString "ring") = False := by decide +kernel
@[simp] theorem w_many_three : (Str.ofString "many" = Str.ofString "three") = False := by decide +kernel
@[simp] theorem w_many_hub : (Str.ofString "many" = Str.ofString "hub") = False := by decide +kernel
@[simp] theorem w_many_lone : (Str.ofString "many" = Str.ofString "lone") = False := by decide +kernel
@[simp] theorem w_many_sides : (Str.ofString "many" = Str.ofString "sides") = False := by decide +kernel
@[simp] theorem w_many_tie : (Str.ofString "many" = Str.ofString "tie") = False := by decide +kernel
@[simp] theorem w_many_way : (Str.ofString "many" = Str.ofString "way") = False := by decide +kernel
@[simp] theorem w_many_ends : (Str.ofString "many" = Str.ofString "ends") = False := by decide +kernel
@[simp] theorem w_many_told : (Str.ofString "many" = Str.ofString "told") = False := by decide +kernel
@[simp] theorem w_many_not : (Str.ofString "many" = Str.ofString "not") = False := by decide +kernel
@[simp] theorem w_many_missing : (Str.ofString "many" = Str.ofString "missing") = False := by decide +kernel
@[simp] theorem w_many_both : (Str.ofString "many" = Str.ofString "both") = False := by decide +kernel
@[simp] theorem w_many_either : (Str.ofString "many" = Str.ofString "either") = False := by decide +kernel
@[simp] theorem w_many_one : (Str.ofString "many" = Str.ofString "one") = False := by decide +kernel
@[simp] theorem w_many_lots : (Str.ofString "many" = Str.ofString "lots") = False := by decide +kernel
@[simp] theorem w_many_words : (Str.ofString "many" = Str.ofString "words") = False := by decide +kernel
@[simp] theorem w_many_web : (Str.ofString "many" = Str.ofString "web") = False := by decide +kernel
@[simp] theorem w_way_odd : (Str.ofString "way" = Str.ofString "odd") = False := by decide +kernel
@[simp] theorem w_way_joined : (Str.ofString "way" = Str.ofString "joined") = False := by decide +kernel
@[simp] theorem w_way_ring : (Str.ofString "way" = Str.ofString "ring") = False := by decide +kernel
@[simp] theorem w_way_three : (Str.ofString "way" = Str.ofString "three") = False := by decide +kernel
@[simp] theorem w_way_hub : (Str.ofString "way" = Str.ofString "hub") = False := by decide +kernel
@[simp] theorem w_way_lone : (Str.ofString "way" = Str.ofString "lone") = False := by decide +kernel
@[simp] theorem w_way_sides : (Str.ofString "way" = Str.ofString "sides") = False := by decide +kernel
@[simp] theorem w_way_tie : (Str.ofString "way" = Str.ofString "tie") = False := by decide +kernel
@[simp] theorem w_way_many : (Str.ofString "way" = Str.ofString "many") = False := by decide +kernel
@[simp] theorem w_way_ends : (Str.ofString "way" = Str.ofString "ends") = False := by decide +kernel
@[simp] theorem w_way_told : (Str.ofString "way" = Str.ofString "told") = False := by decide +kernel
@[simp] theorem w_way_not : (Str.ofString "way" = Str.ofString "not") = False := by decide +kernel
@[simp] theorem w_way_missing : (Str.ofString "way" = Str.ofString "missing") = False := by decide +kernel
@[simp] theorem w_way_both : (Str.ofString "way" = Str.ofString "both") = False := by decide +kernel
@[simp] theorem w_way_either : (Str.ofString "way" = Str.ofString "either") = False := by decide +kernel
@[simp] theorem w_way_one : (Str.ofString "way" = Str.ofString "one") = False := by decide +kernel
@[simp] theorem w_way_lots : (Str.ofString "way" = Str.ofString "lots") = False := by decide +kernel
@[simp] theorem w_way_words : (Str.ofString "way" = Str.ofString "words") = False := by decide +kernel
@[simp] theorem w_way_web : (Str.ofString "way" = Str.ofString "web") = False := by decide +kernel
@[simp] theorem w_ends_odd : (Str.ofString "ends" = Str.ofString "odd") = False := by decide +kernel
@[simp] theorem w_ends_joined : (Str.ofString "ends" = Str.ofString "joined") = False := by decide +kernel
@[simp] theorem w_ends_ring : (Str.ofString "ends" = Str.ofString "ring") = False := by decide +kernel
@[simp] theorem w_ends_three : (Str.ofString "ends" = Str.ofString "three") = False := by decide +kernel
@[simp] theorem w_ends_hub : (Str.ofString "ends" = Str.ofString "hub") = False := by decide +kernel
@[simp] theorem w_ends_lone : (Str.ofString "ends" = Str.ofString "lone") = False := by decide +kernel
@[simp] theorem w_ends_sides : (Str.ofString "ends" = Str.ofString "sides") = False := by decide +kernel
@[simp] theorem w_ends_tie : (Str.ofString "ends" = Str.ofString "tie") = False := by decide +kernel
@[simp] theorem w_ends_many : (Str.ofString "ends" = Str.ofString "many") = False := by decide +kernel
@[simp] theorem w_ends_way : (Str.ofString "ends" = Str.ofString "way") = False := by decide +kernel
@[simp] theorem w_ends_told : (Str.ofString "ends" = Str.ofString "told") = False := by decide +kernel
@[simp] theorem w_ends_not : (Str.ofString "ends" = Str.ofString "not") = False := by decide +kernel
@[simp] theorem w_ends_missing : (Str.ofString "ends" = Str.ofString "missing") = False := by decide +kernel
@[simp] theorem w_ends_both : (Str.ofString "ends" = Str.ofString "both") = False := by decide +kernel
@[simp] theorem w_ends_either : (Str.ofString "ends" = Str.ofString "either") = False := by decide +kernel
@[simp] theorem w_ends_one : (Str.ofString "ends" = Str.ofString "one") = False := by decide +kernel
@[simp] theorem w_ends_lots : (Str.ofString "ends" = Str.ofString "lots") = False := by decide +kernel
@[simp] theorem w_ends_words : (Str.ofString "ends" = Str.ofString "words") = False := by decide +kernel
@[simp] theorem w_ends_web : (Str.ofString "ends" = Str.ofString "web") = False := by decide +kernel
@[simp] theorem w_told_odd : (Str.ofString "told" = Str.ofString "odd") = False := by decide +kernel
@[simp] theorem w_told_joined : (Str.ofString "told" = Str.ofString "joined") = False := by decide +kernel
@[simp] theorem w_told_ring : (Str.ofString "told" = Str.ofString "ring") = False := by decide +kernel
@[simp] theorem w_told_three : (Str.ofString "told" = Str.ofString "three") = False := by decide +kernel
@[simp] theorem w_told_hub : (Str.ofString "told" = Str.ofString "hub") = False := by decide +kernel
@[simp] theorem w_told_lone : (Str.ofString "told" = Str.ofString "lone") = False := by decide +kernel
@[simp] theorem w_told_sides : (Str.ofString "told" = Str.ofString "sides") = False := by decide +kernel
@[simp] theorem w_told_tie : (Str.ofString "told" = Str.ofString "tie") = False := by decide +kernel
@[simp] theorem w_told_many : (Str.ofString "told" = Str.ofString "many") = False := by decide +kernel
@[simp] theorem w_told_way : (Str.ofString "told" = Str.ofString "way") = False := by decide +kernel
@[simp] theorem w_told_ends : (Str.ofString "told" = Str.ofString "ends") = False := by decide +kernel
@[simp] theorem w_told_not : (Str.ofString "told" = Str.ofString "not") = False := by decide +kernel
@[simp] theorem w_told_missing : (Str.ofString "told" = Str.ofString "missing") = False := by decide +kernel
@[simp] theorem w_told_both : (Str.ofString "told" = Str.ofString "both") = False := by decide +kernel
@[simp] theorem w_told_either : (Str.ofString "told" = Str.ofString "either") = False := by decide +kernel
@[simp] theorem w_told_one : (Str.ofString "told" = Str.ofString "one") = False := by decide +kernel
@[simp] theorem w_told_lots : (Str.ofString "told" = Str.ofString "lots") = False := by decide +kernel
@[simp] theorem w_told_words : (Str.ofString "told" = Str.ofString "words") = False := by decide +kernel
@[simp] theorem w_told_web : (Str.ofString "told" = Str.ofString "web") = False := by decide +kernel
@[simp] theorem w_not_odd : (Str.ofString "not" = Str.ofString "odd") = False := by decide +kernel
@[simp] theorem w_not_joined : (Str.ofString "not" = Str.ofString "joined") = False := by decide +kernel
@[simp] theorem w_not_ring : (Str.ofString "not" = Str.ofString "ring") = False := by decide +kernel
@[simp] theorem w_not_three : (Str.ofString "not" = Str.ofString "three") = False := by decide +kernel
@[simp] theorem w_not_hub : (Str.ofString "not" = Str.ofString "hub") = False := by decide +kernel
@[simp] theorem w_not_lone : (Str.ofString "not" = Str.ofString "lone") = False := by decide +kernel
@[simp] theorem w_not_sides : (Str.ofString "not" = Str.ofString "sides") = False := by decide +kernel
@[simp] theorem w_not_tie : (Str.ofString "not" = Str.ofString "tie") = False := by decide +kernel
@[simp] theorem w_not_many : (Str.ofString "not" = Str.ofString "many") = False := by decide +kernel
@[simp] theorem w_not_way : (Str.ofString "not" = Str.ofString "way") = False := by decide +kernel
@[simp] theorem w_not_ends : (Str.ofString "not" = Str.ofString "ends") = False := by decide +kernel
@[simp] theorem w_not_told : (Str.ofString "not" = Str.ofString "told") = False := by decide +kernel
@[simp] theorem w_not_missing : (Str.ofString "not" = Str.ofString "missing") = False := by decide +kernel
@[simp] theorem w_not_both : (Str.ofString "not" = Str.ofString "both") = False := by decide +kernel
@[simp] theorem w_not_either : (Str.ofString "not" = Str.ofString "either") = False := by decide +kernel
@[simp] theorem w_not_one : (Str.ofString "not" = Str.ofString "one") = False := by decide +kernel
@[simp] theorem w_not_lots : (Str.ofString "not" = Str.ofString "lots") = False := by decide +kernel
@[simp] theorem w_not_words : (Str.ofString "not" = Str.ofString "words") = False := by decide +kernel
@[simp] theorem w_not_web : (Str.ofString "not" = Str.ofString "web") = False := by decide +kernel
@[simp] theorem w_missing_odd : (Str.ofString "missing" = Str.ofString "odd") = False := by decide +kernel
@[simp] theorem w_missing_joined : (Str.ofString "missing" = Str.ofString "joined") = False := by decide +kernel
@[simp] theorem w_missing_ring : (Str.ofString "missing" = Str.ofString "ring") = False := by decide +kernel
@[simp] theorem w_missing_three : (Str.ofString "missing" = Str.ofString "three") = False := by decide +kernel
@[simp] theorem w_missing_hub : (Str.ofString "missing" = Str.ofString "hub") = False := by decide +kernel
@[simp] theorem w_missing_lone : (Str.ofString "missing" = Str.ofString "lone") = False := by decide +kernel
@[simp] theorem w_missing_sides : (Str.ofString "missing" = Str.ofString "sides") = False := by decide +kernel
@[simp] theorem w_missing_tie : (Str.ofString "missing" = Str.ofString "tie") = False := by decide +kernel
@[simp] theorem w_missing_many : (Str.ofString "missing" = Str.ofString "many") = False := by decide +kernel
@[simp] theorem w_missing_way : (Str.ofString "missing" = Str.ofString "way") = False := by decide +kernel
@[simp] theorem w_missing_ends : (Str.ofString "missing" = Str.ofString "ends") = False := by decide +kernel
@[simp] theorem w_missing_told : (Str.ofString "missing" = Str.ofString "told") = False := by decide +kernel
@[simp] theorem w_missing_not : (Str.ofString "missing" = Str.ofString "not") = False := by decide +kernel
@[simp] theorem w_missing_both : (Str.ofString "missing" = Str.ofString "both") = False := by decide +kernel
@[simp] theorem w_missing_either : (Str.ofString "missing" = Str.ofString "either") = False := by decide +kernel
@[simp] theorem w_missing_one : (Str.ofString "missing" = Str.ofString "one") = False := by decide +kernel
@[simp] theorem w_missing_lots : (Str.ofString "missing" = Str.ofString "lots") = False := by decide +kernel
@[simp] theorem w_missing_words : (Str.ofString "missing" = Str.ofString "words") = False := by decide +kernel
@[simp] theorem w_missing_web : (Str.ofString "missing" = Str.ofString "web") = False := by decide +kernel
@[simp] theorem w_both_odd : (Str.ofString "both" = Str.ofString "odd") = False := by decide +kernel
@[simp] theorem w_both_joined : (Str.ofString "both" = Str.ofString "joined") = False := by decide +kernel
@[simp] theorem w_both_ring : (Str.ofString "both" = Str.ofString "ring") = False := by decide +kernel
@[simp] theorem w_both_three : (Str.ofString "both" = Str.ofString "three") = False := by decide +kernel
@[simp] theorem w_both_hub : (Str.ofString "both" = Str.ofString "hub") = False := by decide +kernel
@[simp] theorem w_both_lone : (Str.ofString "both" = Str.ofString "lone") = False := by decide +kernel
@[simp] theorem w_both_sides : (Str.ofString "both" = Str.ofString "sides") = False := by decide +kernel
@[simp] theorem w_both_tie : (Str.ofString "both" = Str.ofString "tie") = False := by decide +kernel
@[simp] theorem w_both_many : (Str.ofString "both" = Str.ofString "many") = False := by decide +kernel
@[simp] theorem w_both_way : (Str.ofString "both" = Str.ofString "way") = False := by decide +kernel
@[simp] theorem w_both_ends : (Str.ofString "both" = Str.ofString "ends") = False := by decide +kernel
@[simp] theorem w_both_told : (Str.ofString "both" = Str.ofString "told") = False := by decide +kernel
@[simp] theorem w_both_not : (Str.ofString "both" = Str.ofString "not") = False := by decide +kernel
@[simp] theorem w_both_missing : (Str.ofString "both" = Str.ofString "missing") = False := by decide +kernel
@[simp] theorem w_both_either : (Str.ofString "both" = Str.ofString "either") = False := by decide +kernel
@[simp] theorem w_both_one : (Str.ofString "both" = Str.ofString "one") = False := by decide +kernel
@[simp] theorem w_both_lots : (Str.ofString "both" = Str.ofString "lots") = False := by decide +kernel
@[simp] theorem w_both_words : (Str.ofString "both" = Str.ofString "words") = False := by decide +kernel
@[simp] theorem w_both_web : (Str.ofString "both" = Str.ofString "web") = False := by decide +kernel
@[simp] theorem w_either_odd : (Str.ofString "either" = Str.ofString "odd") = False := by decide +kernel
@[simp] theorem w_either_joined : (Str.ofString "either" = Str.ofString "joined") = False := by decide +kernel
@[simp] theorem w_either_ring : (Str.ofString "either" = Str.ofString "ring") = False := by decide +kernel
@[simp] theorem w_either_three : (Str.ofString "either" = Str.ofString "three") = False := by decide +kernel
@[simp] theorem w_either_hub : (Str.ofString "either" = Str.ofString "hub") = False := by decide +kernel
@[simp] theorem w_either_lone : (Str.ofString "either" = Str.ofString "lone") = False := by decide +kernel
@[simp] theorem w_either_sides : (Str.ofString "either" = Str.ofString "sides") = False := by decide +kernel
@[simp] theorem w_either_tie : (Str.ofString "either" = Str.ofString "tie") = False := by decide +kernel
@[simp] theorem w_either_many : (Str.ofString "either" = Str.ofString "many") = False := by decide +kernel
@[simp] theorem w_either_way : (Str.ofString "either" = Str.ofString "way") = False := by decide +kernel
@[simp] theorem w_either_ends : (Str.ofString "either" = Str.ofString "ends") = False := by decide +kernel
@[simp] theorem w_either_told : (Str.ofString "either" = Str.ofString "told") = False := by decide +kernel
@[simp] theorem w_either_not : (Str.ofString "either" = Str.ofString "not") = False := by decide +kernel
@[simp] theorem w_either_missing : (Str.ofString "either" = Str.ofString "missing") = False := by decide +kernel
@[simp] theorem w_either_both : (Str.ofString "either" = Str.ofString "both") = False := by decide +kernel
@[simp] theorem w_either_one : (Str.ofString "either" = Str.ofString "one") = False := by decide +kernel
@[simp] theorem w_either_lots : (Str.ofString "either" = Str.ofString "lots") = False := by decide +kernel
@[simp] theorem w_either_words : (Str.ofString "either" = Str.ofString "words") = False := by decide +kernel
@[simp] theorem w_either_web : (Str.ofString "either" = Str.ofString "web") = False := by decide +kernel
@[simp] theorem w_one_odd : (Str.ofString "one" = Str.ofString "odd") = False := by decide +kernel
@[simp] theorem w_one_joined : (Str.ofString "one" = Str.ofString "joined") = False := by decide +kernel
@[simp] theorem w_one_ring : (Str.ofString "one" = Str.ofString "ring") = False := by decide +kernel
@[simp] theorem w_one_three : (Str.ofString "one" = Str.ofString "three") = False := by decide +kernel
@[simp] theorem w_one_hub : (Str.ofString "one" = Str.ofString "hub") = False := by decide +kernel
@[simp] theorem w_one_lone : (Str.ofString "one" = Str.ofString "lone") = False := by decide +kernel
@[simp] theorem w_one_sides : (Str.ofString "one" = Str.ofString "sides") = False := by decide +kernel
@[simp] theorem w_one_tie : (Str.ofString "one" = Str.ofString "tie") = False := by decide +kernel
@[simp] theorem w_one_many : (Str.ofString "one" = Str.ofString "many") = False := by decide +kernel
@[simp] theorem w_one_way : (Str.ofString "one" = Str.ofString "way") = False := by decide +kernel
@[simp] theorem w_one_ends : (Str.ofString "one" = Str.ofString "ends") = False := by decide +kernel
@[simp] theorem w_one_told : (Str.ofString "one" = Str.ofString "told") = False := by decide +kernel
@[simp] theorem w_one_not : (Str.ofString "one" = Str.ofString "not") = False := by decide +kernel
@[simp] theorem w_one_missing : (Str.ofString "one" = Str.ofString "missing") = False := by decide +kernel
@[simp] theorem w_one_both : (Str.ofString "one" = Str.ofString "both") = False := by decide +kernel
@[simp] theorem w_one_either : (Str.ofString "one" = Str.ofString "either") = False := by decide +kernel
@[simp] theorem w_one_lots : (Str.ofString "one" = Str.ofString "lots") = False := by decide +kernel
@[simp] theorem w_one_words : (Str.ofString "one" = Str.ofString "words") = False := by decide +kernel
@[simp] theorem w_one_web : (Str.ofString "one" = Str.ofString "web") = False := by decide +kernel
@[simp] theorem w_lots_odd : (Str.ofString "lots" = Str.ofString "odd") = False := by decide +kernel
@[simp] theorem w_lots_joined : (Str.ofString "lots" = Str.ofString "joined") = False := by decide +kernel
@[simp] theorem w_lots_ring : (Str.ofString "lots" = Str.ofString "ring") = False := by decide +kernel
@[simp] theorem w_lots_three : (Str.ofString "lots" = Str.ofString "three") = False := by decide +kernel
@[simp] theorem w_lots_hub : (Str.ofString "lots" = Str.ofString "hub") = False := by decide +kernel
@[simp] theorem w_lots_lone : (Str.ofString "lots" = Str.ofString "lone") = False := by decide +kernel
@[simp] theorem w_lots_sides : (Str.ofString "lots" = Str.ofString "sides") = False := by decide +kernel
@[simp] theorem w_lots_tie : (Str.ofString "lots" = Str.ofString "tie") = False := by decide +kernel
@[simp] theorem w_lots_many : (Str.ofString "lots" = Str.ofString "many") = False := by decide +kernel
@[simp] theorem w_lots_way : (Str.ofString "lots" = Str.ofString "way") = False := by decide +kernel
@[simp] theorem w_lots_ends : (Str.ofString "lots" = Str.ofString "ends") = False := by decide +kernel
@[simp] theorem w_lots_told : (Str.ofString "lots" = Str.ofString "told") = False := by decide +kernel
@[simp] theorem w_lots_not : (Str.ofString "lots" = Str.ofString "not") = False := by decide +kernel
@[simp] theorem w_lots_missing : (Str.ofString "lots" = Str.ofString "missing") = False := by decide +kernel
@[simp] theorem w_lots_both : (Str.ofString "lots" = Str.ofString "both") = False := by decide +kernel
@[simp] theorem w_lots_either : (Str.ofString "lots" = Str.ofString "either") = False := by decide +kernel
@[simp] theorem w_lots_one : (Str.ofString "lots" = Str.ofString "one") = False := by decide +kernel
@[simp] theorem w_lots_words : (Str.ofString "lots" = Str.ofString "words") = False := by decide +kernel
@[simp] theorem w_lots_web : (Str.ofString "lots" = Str.ofString "web") = False := by decide +kernel
@[simp] theorem w_words_odd : (Str.ofString "words" = Str.ofString "odd") = False := by decide +kernel
@[simp] theorem w_words_joined : (Str.ofString "words" = Str.ofString "joined") = False := by decide +kernel
@[simp] theorem w_words_ring : (Str.ofString "words" = Str.ofString "ring") = False := by decide +kernel
@[simp] theorem w_words_three : (Str.ofString "words" = Str.ofString "three") = False := by decide +kernel
@[simp] theorem w_words_hub : (Str.ofString "words" = Str.ofString "hub") = False := by decide +kernel
@[simp] theorem w_words_lone : (Str.ofString "words" = Str.ofString "lone") = False := by decide +kernel
@[simp] theorem w_words_sides : (Str.ofString "words" = Str.ofString "sides") = False := by decide +kernel
@[simp] theorem w_words_tie : (Str.ofString "words" = Str.ofString "tie") = False := by decide +kernel
@[simp] theorem w_words_many : (Str.ofString "words" = Str.ofString "many") = False := by decide +kernel
@[simp] theorem w_words_way : (Str.ofString "words" = Str.ofString "way") = False := by decide +kernel
@[simp] theorem w_words_ends : (Str.ofString "words" = Str.ofString "ends") = False := by decide +kernel
@[simp] theorem w_words_told : (Str.ofString "words" = Str.ofString "told") = False := by decide +kernel
@[simp] theorem w_words_not : (Str.ofString "words" = Str.ofString "not") = False := by decide +kernel
@[simp] theorem w_words_missing : (Str.ofString "words" = Str.ofString "missing") = False := by decide +kernel
@[simp] theorem w_words_both : (Str.ofString "words" = Str.ofString "both") = False := by decide +kernel
@[simp] theorem w_words_either : (Str.ofString "words" = Str.ofString "either") = False := by decide +kernel
@[simp] theorem w_words_one : (Str.ofString "words" = Str.ofString "one") = False := by decide +kernel
@[simp] theorem w_words_lots : (Str.ofString "words" = Str.ofString "lots") = False := by decide +kernel
@[simp] theorem w_words_web : (Str.ofString "words" = Str.ofString "web") = False := by decide +kernel
@[simp] theorem w_web_odd : (Str.ofString "web" = Str.ofString "odd") = False := by decide +kernel
@[simp] theorem w_web_joined : (Str.ofString "web" = Str.ofString "joined") = False := by decide +kernel
@[simp] theorem w_web_ring : (Str.ofString "web" = Str.ofString "ring") = False := by decide +kernel
@[simp] theorem w_web_three : (Str.ofString "web" = Str.ofString "three") = False := by decide +kernel
@[simp] theorem w_web_hub : (Str.ofString "web" = Str.ofString "hub") = False := by decide +kernel
@[simp] theorem w_web_lone : (Str.ofString "web" = Str.ofString "lone") = False := by decide +kernel
@[simp] theorem w_web_sides : (Str.ofString "web" = Str.ofString "sides") = False := by decide +kernel
@[simp] theorem w_web_tie : (Str.ofString "web" = Str.ofString "tie") = False := by decide +kernel
@[simp] theorem w_web_many : (Str.ofString "web" = Str.ofString "many") = False := by decide +kernel
@[simp] theorem w_web_way : (Str.ofString "web" = Str.ofString "way") = False := by decide +kernel
@[simp] theorem w_web_ends : (Str.ofString "web" = Str.ofString "ends") = False := by decide +kernel
@[simp] theorem w_web_told : (Str.ofString "web" = Str.ofString "told") = False := by decide +kernel
@[simp] theorem w_web_not : (Str.ofString "web" = Str.ofString "not") = False := by decide +kernel
@[simp] theorem w_web_missing : (Str.ofString "web" = Str.ofString "missing") = False := by decide +kernel
@[simp] theorem w_web_both : (Str.ofString "web" = Str.ofString "both") = False := by decide +kernel
@[simp] theorem w_web_either : (Str.ofString "web" = Str.ofString "either") = False := by decide +kernel
@[simp] theorem w_web_one : (Str.ofString "web" = Str.ofString "one") = False := by decide +kernel
@[simp] theorem w_web_lots : (Str.ofString "web" = Str.ofString "lots") = False := by decide +kernel
@[simp] theorem w_web_words : (Str.ofString "web" = Str.ofString "words") = False := by decide +kernel
end Dv

namespace Dv
open PySem PySem.Spec PyProof.Rows L2 Df
/-! ### wishes -/
inductive Wd | odd | joined | ring | three | hub | lone | sides
inductive W
  | sg (w : Wd) | many (k : Nat) | ends (p k : Nat) | told (bs : List Bool) | tie (a b : Nat) | way (a b : Nat)
  | neg (w : W) | mis (w : W) | both (a b : W) | either (a b : W) | one (a b : W)
def wdS : Wd → Str
  | .odd => "odd" | .joined => "joined" | .ring => "ring" | .three => "three" | .hub => "hub" | .lone => "lone" | .sides => "sides"
def wD : W → D
  | .sg w => .tup [.str (wdS w)]
  | .many k => .tup [.str "many", .int (k : Int)]
  | .ends p k => .tup [.str "ends", .int (p : Int), .int (k : Int)]
  | .told bs => .tup [.str "told", .tup (bs.map D.bl)]
  | .tie a b => .tup [.str "tie", .int (a : Int), .int (b : Int)]
  | .way a b => .tup [.str "way", .int (a : Int), .int (b : Int)]
  | .neg w => .tup [.str "not", wD w]
  | .mis w => .tup [.str "missing", wD w]
  | .both a b => .tup [.str "both", wD a, wD b]
  | .either a b => .tup [.str "either", wD a, wD b]
  | .one a b => .tup [.str "one", wD a, wD b]
/-- how many parts -/
def W.sz : W → Nat
  | .neg w => w.sz + 1
  | .mis w => w.sz + 1
  | .both a b => a.sz + b.sz + 1
  | .either a b => a.sz + b.sz + 1
  | .one a b => a.sz + b.sz + 1
  | _ => 1
/-- a tie of two places -/
def tp (a b : Nat) : D := .tup [.int (a : Int), .int (b : Int)]
/-- a wish of a frame -/
def W.ok (n : Nat) (ts : List D) : W → Prop
  | .sg _ => True
  | .many k => k ≤ 99
  | .ends p k => p < n ∧ k ≤ 99
  | .told bs => bs.length = 2 ^ ts.length
  | .tie a b => tp a b ∈ ts
  | .way a b => a < b ∧ b < n
  | .neg w => w.ok n ts
  | .mis w => w.ok n ts
  | .both a b => a.ok n ts ∧ b.ok n ts
  | .either a b => a.ok n ts ∧ b.ok n ts
  | .one a b => a.ok n ts ∧ b.ok n ts
/-- the web of a number, its ties -/
def eK (ts : List D) (k : Nat) : Ed := (wbK ts k).map keyD
def deg (E : Ed) (p : Nat) : Nat := (nearL E (p : Int)).length
/-- which webs have it -/
def TrW (n : Nat) (ts : List D) (k : Nat) : Wd → Prop
  | .odd => (wbK ts k).length % 2 = 1
  | .joined => ∃ f, Mk (eK ts k) n f ∧ Df.cnt f n = 1
  | .ring => Cyc (eK ts k)
  | .three => ∃ a b c : Int, Adj (eK ts k) a b ∧ Adj (eK ts k) b c ∧ Adj (eK ts k) a c
  | .hub => ∃ p, p < n ∧ deg (eK ts k) p + 1 = n
  | .lone => ∃ p, p < n ∧ deg (eK ts k) p = 0
  | .sides => ∃ c, Col (eK ts k) c
def Tr (n : Nat) (ts : List D) : W → Nat → Prop
  | .sg w, k => TrW n ts k w
  | .many j, k => j ≤ (wbK ts k).length
  | .ends p j, k => j ≤ deg (eK ts k) p
  | .told bs, k => bs[k]? = some true
  | .tie a b, k => tp a b ∈ wbK ts k
  | .way a b, k => Rch (eK ts k) (a : Int) (b : Int)
  | .neg w, k => ¬ Tr n ts w k
  | .mis w, k => Tr n ts w (2 ^ ts.length - 1 - k)
  | .both a b, k => Tr n ts a k ∧ Tr n ts b k
  | .either a b, k => Tr n ts a k ∨ Tr n ts b k
  | .one a b, k => ¬ (Tr n ts a k ↔ Tr n ts b k)
open Classical in
noncomputable def tr (n : Nat) (ts : List D) (w : W) (k : Nat) : Bool := decide (Tr n ts w k)
theorem tr_iff {n : Nat} {ts : List D} {w : W} {k : Nat} : tr n ts w k = true ↔ Tr n ts w k := by unfold tr; simp
theorem tr_of {n : Nat} {ts : List D} {w : W} {k : Nat} {b : Bool} (h : b = true ↔ Tr n ts w k) : b = tr n ts w k := by
  rw [Bool.eq_iff_iff, h, tr_iff]
/-- a truth is told, only new things -/
def trP (S : Sto) (b : Bool) (d : D) (T : Sto) : Prop := d = .bl b ∧ Gw S T
/-! ### in -/
theorem in_dk {T : Sto} {dl : Nat} {kvs : List (L2.Key × D)} {o : Int} (h : T[dl]? = some (.dk kvs)) : inD (.int o) (.ref dl) T = .ok (.bl (valK kvs (.inl o)).isSome) T := by
  unfold inD inB
  rw [dk_is h]
  rfl
/-- a place in a tie -/
def inT (z a b : Int) : Bool := decide (z = a) || decide (z = b)
theorem in_t2 {S : Sto} {z a b : Int} : inD (.int z) (.tup [.int a, .int b]) S = .ok (.bl (inT z a b)) S := by
  have e1 : toP S 1000 (.int z) = some (.int z) := rfl
  have e2 : toP S 1000 (.tup [.int a, .int b]) = some (.tuple [.int a, .int b]) := rfl
  have ed : dkD (.tup [.int a, .int b]) S = none := rfl
  have sp : SeqAt.shaped (.int z) = true := by simp [SeqAt.shaped, PyData.canLay0, PyData.depth]
  have sp2 : SeqAt.shaped (.tuple [.int a, .int b]) = true := by simp [SeqAt.shaped, PyData.canLay0, PyData.canLayAll0, PyData.depth, PyData.depthAll]
  unfold inD inB
  rw [ed, e1, e2]
  simp only
  rw [if_pos ⟨sp, sp2⟩]
  have : ([PyData.int a, PyData.int b].any fun y => PyData.eqv y (.int z)) = inT z a b := by
    simp only [List.any_cons, List.any_nil, Bool.or_false, PyData.eqv, inT]
    rw [Bool.eq_iff_iff]
    simp
    omega
  rw [this]
/-- sides told are sides -/
theorem col_ss {n : Nat} {ys : List D} (hy : InN n ys) {ss : List Int} (ln : ss.length = n) (b : ∀ v ∈ ss, v = 0 ∨ v = 1) (h : ∀ a b : Nat, ((a : Int), (b : Int)) ∈ ys.map keyD → ss[a]? ≠ ss[b]?) : ∃ c, Col (ys.map keyD) c := by
  refine ⟨fun x => (ss[x.toNat]?).getD 0, fun x => ?_, fun x y hxy => ?_⟩
  · simp only
    cases e : ss[x.toNat]? with
    | none => exact .inl rfl
    | some v => exact b v (List.mem_of_getElem? e)
  · have key : ∀ x y : Int, (x, y) ∈ ys.map keyD → (ss[x.toNat]?).getD 0 ≠ (ss[y.toNat]?).getD 0 := fun x y hm => by
      obtain ⟨w, hw, e⟩ := List.mem_map.mp hm
      obtain ⟨a, b', rfl, ha, hb⟩ := hy w hw
      have e : ((a : Int), (b' : Int)) = (x, y) := e
      cases e
      have := h a b' hm
      rw [List.getElem?_eq_getElem (show a < ss.length by omega), List.getElem?_eq_getElem (show b' < ss.length by omega)] at this
      simp only [Int.toNat_natCast]
      rw [List.getElem?_eq_getElem (show a < ss.length by omega), List.getElem?_eq_getElem (show b' < ss.length by omega)]
      simpa using this
    rcases hxy with z | z
    · exact key x y z
    · exact fun e => key y x z e.symm
theorem wbK_sub : ∀ {ts : List D} {k : Nat}, (wbK ts k).Sublist ts
  | [], _ => by simp [wbK]
  | t :: ts, k => by
    rw [wbK]
    split
    · exact (wbK_sub).cons₂ t
    · exact (wbK_sub).cons t
theorem Frm.web {n : Nat} {ts : List D} (h : Frm n ts) (k : Nat) : TW n (wbK ts k) := h.tw.sub wbK_sub
theorem ine {n : Nat} {ys : List D} (h : InN n ys) : InE n (ys.map keyD) := fun e he => by
  obtain ⟨y, hy, rfl⟩ := List.mem_map.mp he
  obtain ⟨a, b, rfl, ha, hb⟩ := h y hy
  exact ⟨a, b, rfl, ha, hb⟩
theorem mk_any {n : Nat} {F : Ed} : InE n F.reverse → ∃ f, Mk F.reverse n f := fun h => by
  obtain ⟨f, hf, _⟩ := cyc_cnt h
  exact ⟨f, hf⟩
theorem mk_ex {n : Nat} {ys : List D} (h : InN n ys) : ∃ f, Mk (ys.map keyD) n f := by
  have := mk_any (n := n) (F := (ys.map keyD).reverse) (by rw [List.reverse_reverse]; exact ine h)
  rw [List.reverse_reverse] at this
  exact this
theorem cnt_prL {f : Nat → Int} {n : Nat} : (prL f n n).length = Df.cnt f n := by
  unfold prL Df.cnt
  rw [List.length_map]
theorem inW_iff {t : D} {ws : List D} (ht : isPr t = true) (hw : AllPr ws) : inW t ws = true ↔ t ∈ ws := by
  unfold inW
  rw [List.any_eq_true]
  constructor
  · rintro ⟨y, hy, e⟩
    rw [← pr_inj (hw y hy) ht (of_decide_eq_true e)]
    exact hy
  · exact fun h => ⟨t, h, decide_eq_true rfl⟩
theorem AllB.sub {ws zs : List D} (h : AllB ws) (hs : ∀ z ∈ zs, z ∈ ws) : AllB zs := fun z hz => h z (hs z hz)
/-- tied places are unlike -/
theorem adj_ne {n : Nat} {ys : List D} (h : TW n ys) {x y : Int} (a : Adj (ys.map keyD) x y) : x ≠ y := by
  rcases a with z | z <;> obtain ⟨w, hw, e⟩ := List.mem_map.mp z <;> obtain ⟨a, b, rfl, l1, l2⟩ := tie_sh (h.it w hw) <;> (have e : ((a : Int), (b : Int)) = _ := e; cases e) <;> omega
end Dv

namespace Dv
open PySem PySem.Spec PyProof.Rows L2 Df
/-! ### has -/
noncomputable def thB (iN : Nat) : DenS := (sSeq (sAsg (.nm 3) (dCallF iN 2 (dCons (dVar 0) (dCons (dVar 2) dNil))))
    (sIf (dTru (dAb true (iVal (dCallF iN 2 (dCons (dVar 0) (dCons (dVar 1) dNil)))) (.nm 4) tYesD (dOp inD (dVar 4) (dVar 3)) [4])) (sRet (dC (.bl true))) sNil))
noncomputable def threeF (iN : Nat) : DenS := (sSeq (sFor (iVal (dVar 0)) (.tp [1, 2]) (thB iN))
    (sRet (dC (.bl false))))
noncomputable def shR7 (iS : Nat) : DenS := (sRet (dOp isnD (dCallF iS 2 (dCons (dVar 0) (dCons (dVar 2) dNil))) (dC .non)))
noncomputable def shR6 (iN iS : Nat) : DenS := (sSeq (sIf (dBl (dOp eqD (dVar 1) (dC (.str "lone")))) (sRet (dAb true (iRange1 (dCons (dOp ixD (dVar 0) (dC (.int 0))) dNil)) (.nm 3) tYesD (dOp eqD (dCl lenD (dCons (dCallF iN 2 (dCons (dVar 2) (dCons (dVar 3) dNil))) dNil)) (dC (.int 0))) [3])) sNil) (shR7 iS))
noncomputable def shapeF (iN iP iR iS iH : Nat) : DenS := (sSeq (sIf (dBl (dOp eqD (dVar 1) (dC (.str "odd")))) (sRet (dOp eqD (dOp modD (dCl lenD (dCons (dVar 2) dNil)) (dC (.int 2))) (dC (.int 1)))) sNil)
    (sSeq (sIf (dBl (dOp eqD (dVar 1) (dC (.str "joined")))) (sRet (dOp eqD (dCl lenD (dCons (dCallF iP 2 (dCons (dVar 0) (dCons (dVar 2) dNil))) dNil)) (dC (.int 1)))) sNil)
    (sSeq (sIf (dBl (dOp eqD (dVar 1) (dC (.str "ring")))) (sRet (dOp isnD (dCallF iR 2 (dCons (dVar 0) (dCons (dVar 2) dNil))) (dC .non))) sNil)
    (sSeq (sIf (dBl (dOp eqD (dVar 1) (dC (.str "three")))) (sRet (dCallF iH 1 (dCons (dVar 2) dNil))) sNil)
    (sSeq (sIf (dBl (dOp eqD (dVar 1) (dC (.str "hub")))) (sRet (dAb true (iRange1 (dCons (dOp ixD (dVar 0) (dC (.int 0))) dNil)) (.nm 3) tYesD (dOp eqD (dCl lenD (dCons (dCallF iN 2 (dCons (dVar 2) (dCons (dVar 3) dNil))) dNil)) (dOp subD (dOp ixD (dVar 0) (dC (.int 0))) (dC (.int 1)))) [3])) sNil)
    (shR6 iN iS))))))
noncomputable def simpleF (iN iW iK iG : Nat) : DenS := (sSeq (sAsg (.nm 3) (dOp ixD (dVar 1) (dC (.int 0))))
    (sSeq (sIf (dBl (dOp eqD (dVar 3) (dC (.str "tie")))) (sRet (dOp inD (dTup (dCons (dOp ixD (dVar 1) (dC (.int 1))) (dCons (dOp ixD (dVar 1) (dC (.int 2))) dNil))) (dVar 2))) sNil)
    (sSeq (sIf (dBl (dOp eqD (dVar 3) (dC (.str "many")))) (sRet (dOp geD (dCl lenD (dCons (dVar 2) dNil)) (dOp ixD (dVar 1) (dC (.int 1))))) sNil)
    (sSeq (sIf (dBl (dOp eqD (dVar 3) (dC (.str "way")))) (sRet (dOp inD (dOp ixD (dVar 1) (dC (.int 2))) (dCallF iW 2 (dCons (dVar 2) (dCons (dOp ixD (dVar 1) (dC (.int 1))) dNil))))) sNil)
    (sSeq (sIf (dBl (dOp eqD (dVar 3) (dC (.str "ends")))) (sRet (dOp geD (dCl lenD (dCons (dCallF iN 2 (dCons (dVar 2) (dCons (dOp ixD (dVar 1) (dC (.int 1))) dNil))) dNil)) (dOp ixD (dVar 1) (dC (.int 2))))) sNil)
    (sSeq (sIf (dBl (dOp eqD (dVar 3) (dC (.str "told")))) (sRet (dOp ixD (dOp ixD (dVar 1) (dC (.int 1))) (dCallF iK 2 (dCons (dVar 0) (dCons (dVar 2) dNil))))) sNil)
    (sRet (dCallF iG 3 (dCons (dVar 0) (dCons (dVar 3) (dCons (dVar 2) dNil)))))))))))
noncomputable def hasF (iM iH iX : Nat) : DenS := (sSeq (sAsg (.nm 3) (dOp ixD (dVar 1) (dC (.int 0))))
    (sSeq (sIf (dBl (dOp eqD (dVar 3) (dC (.str "not")))) (sRet (dUn notD (dCallF iH 3 (dCons (dVar 0) (dCons (dOp ixD (dVar 1) (dC (.int 1))) (dCons (dVar 2) dNil)))))) sNil)
    (sSeq (sIf (dBl (dOp eqD (dVar 3) (dC (.str "missing")))) (sRet (dCallF iH 3 (dCons (dVar 0) (dCons (dOp ixD (dVar 1) (dC (.int 1))) (dCons (dCallF iM 2 (dCons (dVar 0) (dCons (dVar 2) dNil))) dNil))))) sNil)
    (sSeq (sIf (dBl (dOp eqD (dVar 3) (dC (.str "both")))) (sRet (dAndV (dCallF iH 3 (dCons (dVar 0) (dCons (dOp ixD (dVar 1) (dC (.int 1))) (dCons (dVar 2) dNil)))) (dCallF iH 3 (dCons (dVar 0) (dCons (dOp ixD (dVar 1) (dC (.int 2))) (dCons (dVar 2) dNil)))))) sNil)
    (sSeq (sIf (dBl (dOp eqD (dVar 3) (dC (.str "either")))) (sRet (dOrV (dCallF iH 3 (dCons (dVar 0) (dCons (dOp ixD (dVar 1) (dC (.int 1))) (dCons (dVar 2) dNil)))) (dCallF iH 3 (dCons (dVar 0) (dCons (dOp ixD (dVar 1) (dC (.int 2))) (dCons (dVar 2) dNil)))))) sNil)
    (sSeq (sIf (dBl (dOp eqD (dVar 3) (dC (.str "one")))) (sRet (dOp neD (dCallF iH 3 (dCons (dVar 0) (dCons (dOp ixD (dVar 1) (dC (.int 1))) (dCons (dVar 2) dNil)))) (dCallF iH 3 (dCons (dVar 0) (dCons (dOp ixD (dVar 1) (dC (.int 2))) (dCons (dVar 2) dNil)))))) sNil)
    (sRet (dCallF iX 3 (dCons (dVar 0) (dCons (dVar 1) (dCons (dVar 2) dNil)))))))))))
/-- where the defs of has are: number, missing, near, ways, pieces, ring, sides, three, shape, simple, has -/
structure HasAt (bs : Bodies) (iK iM iN iW iP iR iS iT iG iX iH : Nat) : Prop where
  k : bs[iK]? = some (numberF, 5)
  m : bs[iM]? = some (missF, 3)
  n : bs[iN]? = some (nearF, 5)
  w : bs[iW]? = some (waysF iN, 6)
  p : bs[iP]? = some (piecesF iW, 6)
  r : bs[iR]? = some (ringF iW, 6)
  s : bs[iS]? = some (sidesF iP iW, 8)
  t : bs[iT]? = some (threeF iN, 5)
  g : bs[iG]? = some (shapeF iN iP iR iS iT, 4)
  x : bs[iX]? = some (simpleF iN iW iK iG, 4)
  h : bs[iH]? = some (hasF iM iH iX, 4)
/-- one after another until one is true, only new things -/
theorem ab_gw {chk : Sto → Prop} {t : Tg} {cond : Dv.Env → Sto → R Bool} {elt : Dv.Env → Sto → R D} {ρ : Dv.Env} {S0 : Sto} {p : D → Bool} (hc : ∀ T, Gw S0 T → chk T) : ∀ {xs : List D} {S : Sto}, Gw S0 S → (∀ x ∈ xs, ∃ ρ1, tgD t x ρ = some ρ1 ∧ (∀ T, Gw S0 T → cond ρ1 T = .ok true T ∧ (elt ρ1 T).wp (trP T (p x)) noX)) →
    (abGo true chk t cond elt ρ xs S).wp (trP S0 (xs.any p)) noX
  | [], S, g, _ => by
    unfold abGo
    rw [if_pos (hc S g)]
    exact ⟨rfl, g⟩
  | x :: xs, S, g, h => by
    obtain ⟨ρ1, h1, h2⟩ := h x List.mem_cons_self
    obtain ⟨h3, h4⟩ := h2 S g
    obtain ⟨d, T, e, rfl, gT⟩ := R.wp_get h4
    unfold abGo
    rw [if_pos (hc S g)]
    simp only [h1, h3, e, quiet_ok, R.bind_ok, if_true]
    rw [List.any_cons]
    cases hp : p x with
    | true => exact ⟨rfl, g.trans gT⟩
    | false =>
      rw [Bool.false_or]
      exact ab_gw hc (g.trans gT) fun y hy => h y (List.mem_cons_of_mem _ hy)
section
variable {bs : Bodies} {iK iM iN iW iP iR iS iT iG iX iH m : Nat} {S : Sto} {n : Nat} {ts : List D} {k : Nat}
def thJ (S : Sto) (ys : List D) (xs : List D) (ρ : Dv.Env) (T : Sto) : Prop := ∃ (o1 o2 o3 : Option D) (dn : List D), ρ = [some (.tup ys), o1, o2, o3, none] ∧ ys = dn ++ xs ∧ Gw S T ∧ ∀ a b : Nat, tp a b ∈ dn → ∀ c, ¬ (Adj (ys.map keyD) (a : Int) c ∧ Adj (ys.map keyD) (b : Int) c)
theorem three_ok (hN : bs[iN]? = some (nearF, 5)) (hT : bs[iT]? = some (threeF iN, 5)) (hm : 3 ≤ m) (F : Frm n ts) : (Phi bs m 0 iT [.tup (wbK ts k)] S).wp (trP S (tr n ts (.sg .three) k)) noX := by
  have tw := F.web k
  have ab : AllB (wbK ts k) := inn_b tw.inn F.n8
  have l7 := tw.ln
  have yes : ∀ {a b : Nat} {c : Int}, tp a b ∈ wbK ts k → Adj (eK ts k) a c → Adj (eK ts k) b c → tr n ts (.sg .three) k = true := fun {a b c} h1 h2 h3 => tr_iff.mpr ⟨a, b, c, .inl (List.mem_map.mpr ⟨_, h1, rfl⟩), h3, h2⟩
  refine wpP (by omega) hT ?_
  simp [threeF]
  refine for_inv (thJ S (wbK ts k)) ?_ ?_ _ _ _ ?_
  · rintro x xs ρ T ⟨o1, o2, o3, dn, rfl, ey, gw, nn⟩
    have hx : x ∈ wbK ts k := by rw [ey]; simp
    obtain ⟨a, b, rfl, la, lb⟩ := tie_sh (tw.it x hx)
    refine ⟨trivial, _, tg_tp2, ?_⟩
    simp [thB]
    refine R.to (near_ok hN (by omega) (.inl rfl) ab (by omega)) ?_
    rintro d T1 ⟨l1, rfl, ll1, h1, g1⟩
    simp
    refine R.to (near_ok hN (by omega) (.inl rfl) ab (by omega)) ?_
    rintro d T2 ⟨l2, rfl, ll2, h2, g2⟩
    have h1' := g2.kp _ _ h1
    have len1 : (nearL (eK ts k) (b : Int)).length ≤ 900 := Nat.le_trans near_len (by unfold eK; rw [List.length_map]; omega)
    simp [h2]
    rw [ab_any (p := fun d => match d with | .int z => decide (z ∈ nearL (eK ts k) (b : Int)) | _ => false) h2 fun x hx => ?_]
    · obtain ⟨bo, hbo⟩ : ∃ bo, (((nearL ((wbK ts k).map keyD) (a : Int)).map D.int).any fun d => match d with | .int z => decide (z ∈ nearL (eK ts k) (b : Int)) | _ => false) = bo := ⟨_, rfl⟩
      rw [hbo]
      have mean : bo = true ↔ ∃ c, Adj (eK ts k) (a : Int) c ∧ Adj (eK ts k) (b : Int) c := by
        rw [← hbo, List.any_map, List.any_eq_true]
        constructor
        · rintro ⟨z, hz, e⟩
          exact ⟨z, near_mem.mp hz, near_mem.mp (of_decide_eq_true e)⟩
        · rintro ⟨z, h1, h2⟩
          exact ⟨z, near_mem.mpr h1, decide_eq_true (near_mem.mpr h2)⟩
      cases bo with
      | true =>
        obtain ⟨c, c1, c2⟩ := mean.mp rfl
        simp
        exact ⟨by rw [yes hx c1 c2], gw.trans (g1.trans g2)⟩
      | false =>
        simp
        refine ⟨_, _, _, dn ++ [tp a b], rfl, by rw [ey]; simp [tp], gw.trans (g1.trans g2), fun a' b' h' c hc => ?_⟩
        rcases List.mem_append.mp h' with z | z
        · exact nn a' b' z c hc
        · have e := List.mem_singleton.mp z
          unfold tp at e
          simp only [D.tup.injEq, List.cons.injEq, D.int.injEq, and_true] at e
          rw [show a' = a from by omega, show b' = b from by omega] at hc
          exact absurd (mean.mpr ⟨c, hc⟩) (by simp)
    · obtain ⟨z, hz, rfl⟩ := List.mem_map.mp hx
      refine ⟨_, rfl, rfl, R.eq_of ?_⟩
      simp [wipeE, in_int (p := z) h1' len1]
      rfl
  · rintro ρ T ⟨o1, o2, o3, dn, rfl, ey, gw, nn⟩
    rw [List.append_nil] at ey
    refine ⟨trivial, ?_⟩
    simp
    refine ⟨?_, gw⟩
    have : tr n ts (.sg .three) k = false := by
      rw [Bool.eq_false_iff]
      intro z
      obtain ⟨a, b, c, h1, h2, h3⟩ := tr_iff.mp z
      have key : ∀ x y : Int, (x, y) ∈ eK ts k → ∀ c, ¬ (Adj (eK ts k) x c ∧ Adj (eK ts k) y c) := fun x y hxy c hc => by
        obtain ⟨w, hw, e⟩ := List.mem_map.mp hxy
        obtain ⟨p, q, rfl, _, _⟩ := tie_sh (tw.it w hw)
        have e : ((p : Int), (q : Int)) = (x, y) := e
        cases e
        exact nn p q (by rw [← ey]; exact hw) c hc
      rcases h1 with h1 | h1
      · exact key a b h1 c ⟨h3, h2⟩
      · exact key b a h1 c ⟨h2, h3⟩
    rw [this]
  · exact ⟨none, none, none, [], rfl, rfl, Gw.refl, fun a b h => (nomatch h)⟩
end
end Dv

namespace Dv
open PySem PySem.Spec PyProof.Rows L2 Df
section
variable {bs : Bodies} {iK iM iN iW iP iR iS iT iG iX iH m : Nat} {S : Sto} {n : Nat} {ts : List D} {k : Nat}
theorem rng_any {n : Nat} {p : D → Bool} : (Src.rng 0 n).items.any p = true ↔ ∃ x : Nat, x < n ∧ p (.int (x : Int)) = true := by
  rw [List.any_eq_true]
  constructor
  · rintro ⟨d, hd, e⟩
    obtain ⟨x, hx, rfl⟩ := rng_mem hd
    exact ⟨x, hx, by rw [Int.zero_add] at e; exact e⟩
  · rintro ⟨x, hx, e⟩
    refine ⟨.int (x : Int), ?_, e⟩
    unfold Src.items
    exact List.mem_map.mpr ⟨x, List.mem_range.mpr hx, by rw [Int.zero_add]⟩
theorem shape_ok (A : HasAt bs iK iM iN iW iP iR iS iT iG iX iH) (hm : 7 ≤ m) (F : Frm n ts) (w : Wd) : (Phi bs m 0 iG [fr n ts, .str (wdS w), .tup (wbK ts k)] S).wp (trP S (tr n ts (.sg w) k)) noX := by
  have tw := F.web k
  have ab : AllB (wbK ts k) := inn_b tw.inn F.n8
  have l7 := tw.ln
  have n8 := F.n8
  obtain ⟨f, hf⟩ := mk_ex tw.inn
  have dn : (Phi bs (m - 1)).dn = Phi bs (m - 1 - 1) := dnP (by omega)
  have deg_ok : ∀ (j : Nat) (T : Sto) (q : Nat), 2 ≤ j → (Phi bs j 0 iN [.tup (wbK ts k), .int (q : Int)] T).wp (nrP T (wbK ts k) (q : Int)) noX := fun j T q hj => near_ok A.n hj (.inl rfl) ab (by omega)
  refine wpP (by omega) A.g ?_
  cases w with
  | odd =>
    simp [shapeF, wdS]
    refine ⟨?_, Gw.refl⟩
    congr 1
    exact tr_of (by simp [Tr, TrW]; omega)
  | joined =>
    simp [shapeF, wdS, fr]
    refine R.to (pieces_ok A.n A.w A.p (by omega) tw.inn n8 (by omega) hf) ?_
    rintro d T ⟨l, rfl, ⟨rs, h1, h2, _⟩, g⟩
    simp [h1]
    refine ⟨?_, g⟩
    congr 1
    refine tr_of ?_
    rw [decide_eq_true_eq, h2, cnt_prL]
    constructor
    · intro e; exact ⟨f, hf, by omega⟩
    · rintro ⟨g, hg, e⟩
      rw [hf.cnt hg]; omega
  | ring =>
    simp [shapeF, wdS]
    refine R.to (ring_ok A.n A.w A.r (by omega) tw n8) ?_
    rintro d T ⟨g, hd⟩
    simp
    refine ⟨?_, g⟩
    congr 1
    refine tr_of ?_
    rcases hd with ⟨rfl, nc⟩ | ⟨l, p, rfl, _, _, _, _, cy⟩
    · simp [noB]; exact nc
    · simp [noB]; exact cy
  | three =>
    simp [shapeF, wdS]
    refine R.to (three_ok A.n A.t (by omega) F) ?_
    rintro d T h
    simp
    exact h
  | hub =>
    simp [shapeF, wdS, fr]
    refine ⟨by omega, ?_⟩
    refine R.to (ab_gw (S0 := S) (p := fun d => match d with | .int z => decide (deg (eK ts k) z.toNat + 1 = n) | _ => false) (fun _ _ => trivial) Gw.refl fun x hx => ?_) ?_
    · obtain ⟨q, hq, rfl⟩ := rng_mem hx
      refine ⟨_, rfl, fun T g => ⟨rfl, ?_⟩⟩
      simp [wipeE, dn]
      refine R.to (deg_ok _ T q (by omega)) ?_
      rintro d T2 ⟨l, rfl, _, h2, g2⟩
      simp [h2]
      refine ⟨?_, g2⟩
      congr 1
      rw [decide_eq_decide]
      unfold deg eK
      omega
    · rintro d T ⟨rfl, g⟩
      simp
      refine ⟨?_, g⟩
      congr 1
      refine tr_of ?_
      rw [rng_any]
      simp [Tr, TrW]
  | lone =>
    simp [shapeF, shR6, wdS, fr]
    refine ⟨by omega, ?_⟩
    refine R.to (ab_gw (S0 := S) (p := fun d => match d with | .int z => decide (deg (eK ts k) z.toNat = 0) | _ => false) (fun _ _ => trivial) Gw.refl fun x hx => ?_) ?_
    · obtain ⟨q, hq, rfl⟩ := rng_mem hx
      refine ⟨_, rfl, fun T g => ⟨rfl, ?_⟩⟩
      simp [wipeE, dn]
      refine R.to (deg_ok _ T q (by omega)) ?_
      rintro d T2 ⟨l, rfl, _, h2, g2⟩
      simp [h2]
      refine ⟨?_, g2⟩
      congr 1
      rw [decide_eq_decide]
      unfold deg eK
      simp
    · rintro d T ⟨rfl, g⟩
      simp
      refine ⟨?_, g⟩
      congr 1
      refine tr_of ?_
      rw [rng_any]
      simp [Tr, TrW]
  | sides =>
    simp [shapeF, shR6, shR7, wdS, fr]
    refine R.to (sides_ok A.n A.w A.p A.s (by omega) tw.inn n8 (by omega) hf) ?_
    rintro d T ⟨g, hd⟩
    simp
    refine ⟨?_, g⟩
    congr 1
    refine tr_of ?_
    rcases hd with ⟨rfl, nc⟩ | ⟨l, ss, rfl, _, _, ln, b, hs⟩
    · simp [noB, Tr, TrW]; exact nc
    · simp [noB, Tr, TrW]
      exact col_ss tw.inn ln b hs
end
end Dv

namespace Dv
open PySem PySem.Spec PyProof.Rows L2 Df
/-- a wish without wishes in it -/
def W.pl : W → Bool
  | .neg _ => false | .mis _ => false | .both _ _ => false | .either _ _ => false | .one _ _ => false
  | _ => true
section
variable {bs : Bodies} {iK iM iN iW iP iR iS iT iG iX iH m : Nat} {S : Sto} {n : Nat} {ts : List D} {k : Nat}
theorem told_at {bo : List Bool} (h : k < bo.length) : L2.atI (bo.map D.bl) (k : Int) = some (.bl bo[k]) := L2.atI_nat (by simp [h])
theorem simple_ok (A : HasAt bs iK iM iN iW iP iR iS iT iG iX iH) (hm : 8 ≤ m) (F : Frm n ts) (hk : k < 2 ^ ts.length) (w : W) (hw : w.ok n ts) (hp : w.pl = true) : (Phi bs m 0 iX [fr n ts, wD w, .tup (wbK ts k)] S).wp (trP S (tr n ts w k)) noX := by
  have tw := F.web k
  have ab : AllB (wbK ts k) := inn_b tw.inn F.n8
  have l7 := tw.ln
  have n8 := F.n8
  refine wpP (by omega) A.x ?_
  cases w with
  | neg w => cases hp
  | mis w => cases hp
  | both a b => cases hp
  | either a b => cases hp
  | one a b => cases hp
  | sg w =>
    have e : ∀ (T : Sto), (Phi bs (m - 1) 0 iG [fr n ts, .str (wdS w), .tup (wbK ts k)] T).wp (trP T (tr n ts (.sg w) k)) noX := fun T => shape_ok A (by omega) F w
    cases w <;> (simp [simpleF, wD, wdS]; exact R.to (e S) fun d T h => by simpa using h)
  | many j =>
    simp [simpleF, wD]
    refine ⟨?_, Gw.refl⟩
    congr 1
    exact tr_of (by simp [Tr])
  | ends p j =>
    simp [simpleF, wD]
    refine R.to (near_ok A.n (by omega) (.inl rfl) ab (by omega)) ?_
    rintro d T ⟨l, rfl, _, h2, g⟩
    simp [h2]
    refine ⟨?_, g⟩
    congr 1
    exact tr_of (by simp [Tr, deg, eK])
  | told bo =>
    have hl : bo.length = 2 ^ ts.length := hw
    simp [simpleF, wD, fr, number_eq A.k (show 2 ≤ m - 1 by omega) F.b F.dst F.l7 hk, told_at (show k < bo.length by omega)]
    refine ⟨?_, Gw.refl⟩
    congr 1
    exact tr_of (by simp [Tr, List.getElem?_eq_getElem (show k < bo.length by omega)])
  | tie a b =>
    have ht : tp a b ∈ ts := hw
    have bp := F.b _ ht
    simp [simpleF, wD]
    rw [show D.tup [.int (a : Int), .int (b : Int)] = tp a b from rfl, in_pr bp ab (by omega)]
    simp
    refine ⟨?_, Gw.refl⟩
    congr 1
    exact tr_of (inW_iff rfl ab.pr)
  | way a b =>
    obtain ⟨h1, h2⟩ : a < b ∧ b < n := hw
    simp [simpleF, wD]
    refine R.to (ways_ok (n := n) A.n A.w (by omega) (.inl rfl) tw.inn n8 (by omega) ⟨by omega, by omega⟩) ?_
    rintro d T ⟨dl, kvs, ks, rfl, ld, hd, hk, nd, lk, g2, hr, _⟩
    simp [in_dk hd]
    refine ⟨?_, g2⟩
    congr 1
    refine tr_of ?_
    have : (valK kvs (.inl (b : Int))).isSome = true ↔ (b : Int) ∈ ks := by
      constructor
      · intro e
        by_cases c : (b : Int) ∈ ks
        · exact c
        · obtain ⟨ev, _⟩ := val_out (kvs := kvs) (fun z => c ((key_in hk).mp z))
          rw [ev] at e; cases e
      · intro c
        obtain ⟨v, ev, _⟩ := val_in ((key_in hk).mpr c)
        rw [ev]; rfl
    rw [this]
    exact hr _
theorem tr_neg {w : W} : tr n ts (.neg w) k = !tr n ts w k := by
  rw [Bool.eq_iff_iff, tr_iff, Bool.not_eq_true', ← Bool.not_eq_true, tr_iff]; rfl
theorem tr_mis {w : W} : tr n ts (.mis w) k = tr n ts w (2 ^ ts.length - 1 - k) := by
  rw [Bool.eq_iff_iff, tr_iff, tr_iff]; rfl
theorem tr_both {a b : W} : tr n ts (.both a b) k = (tr n ts a k && tr n ts b k) := by
  rw [Bool.eq_iff_iff, tr_iff, Bool.and_eq_true, tr_iff, tr_iff]; rfl
theorem tr_either {a b : W} : tr n ts (.either a b) k = (tr n ts a k || tr n ts b k) := by
  rw [Bool.eq_iff_iff, tr_iff, Bool.or_eq_true, tr_iff, tr_iff]; rfl
theorem tr_one {a b : W} : tr n ts (.one a b) k = !decide (tr n ts a k = tr n ts b k) := by
  rw [Bool.eq_iff_iff, tr_iff]
  simp only [Tr, Bool.not_eq_true', decide_eq_false_iff_not]
  rw [Bool.eq_iff_iff, tr_iff, tr_iff]
theorem has_ok (A : HasAt bs iK iM iN iW iP iR iS iT iG iX iH) (F : Frm n ts) : ∀ (w : W) (m k : Nat) (S : Sto), w.ok n ts → w.sz + 8 ≤ m → k < 2 ^ ts.length → (Phi bs m 0 iH [fr n ts, wD w, .tup (wbK ts k)] S).wp (trP S (tr n ts w k)) noX := by
  have pl : ∀ (w : W) (m k : Nat) (S : Sto), w.ok n ts → w.pl = true → 9 ≤ m → k < 2 ^ ts.length → (Phi bs m 0 iH [fr n ts, wD w, .tup (wbK ts k)] S).wp (trP S (tr n ts w k)) noX := by
    intro w m k S hw hp hm hk
    have e := simple_ok (S := S) A (show 8 ≤ m - 1 by omega) F hk w hw hp
    refine wpP (by omega) A.h ?_
    have fin : (Phi bs (m - 1) 0 iX [fr n ts, wD w, .tup (wbK ts k)] S).wp (bK retK (FlR (trP S (tr n ts w k)) noX) noX) (xK (FlR (trP S (tr n ts w k)) noX) [some (fr n ts), some (wD w), some (.tup (wbK ts k)), some (.str "")]) := R.to e fun d T h => by simpa using h
    cases w with
    | neg w => cases hp
    | mis w => cases hp
    | both a b => cases hp
    | either a b => cases hp
    | one a b => cases hp
    | sg w => cases w <;> (simp [hasF, wD, wdS]; exact R.to e fun d T h => by simpa using h)
    | many j => simp [hasF, wD]; exact R.to e fun d T h => by simpa using h
    | ends p j => simp [hasF, wD]; exact R.to e fun d T h => by simpa using h
    | told bo => simp [hasF, wD]; exact R.to e fun d T h => by simpa using h
    | tie a b => simp [hasF, wD]; exact R.to e fun d T h => by simpa using h
    | way a b => simp [hasF, wD]; exact R.to e fun d T h => by simpa using h
  intro w
  induction w with
  | neg w ih =>
    intro m k S hw hm hk
    refine wpP (by simp [W.sz] at hm; omega) A.h ?_
    simp only [W.sz] at hm
    simp [hasF, wD]
    refine R.to (ih (m - 1) k S hw (by omega) hk) ?_
    rintro d T ⟨rfl, g⟩
    simp
    exact ⟨by rw [tr_neg], g⟩
  | mis w ih =>
    intro m k S hw hm hk
    refine wpP (by simp [W.sz] at hm; omega) A.h ?_
    simp only [W.sz] at hm
    simp [hasF, wD, fr, miss_eq A.m (show 2 ≤ m - 1 by omega) F.b F.dst F.l7 hk]
    refine R.to (ih (m - 1) (2 ^ ts.length - 1 - k) S hw (by omega) (by omega)) ?_
    rintro d T ⟨rfl, g⟩
    simp
    exact ⟨by rw [tr_mis], g⟩
  | both a b ia ib =>
    intro m k S hw hm hk
    refine wpP (by simp [W.sz] at hm; omega) A.h ?_
    simp only [W.sz] at hm
    simp [hasF, wD]
    refine R.to (ia (m - 1) k S hw.1 (by omega) hk) ?_
    rintro d T ⟨rfl, g⟩
    cases ha : tr n ts a k with
    | false =>
      simp
      exact ⟨by rw [tr_both, ha]; rfl, g⟩
    | true =>
      simp
      refine R.to (ib (m - 1) k T hw.2 (by omega) hk) ?_
      rintro d T2 ⟨rfl, g2⟩
      simp
      exact ⟨by rw [tr_both, ha]; rfl, g.trans g2⟩
  | either a b ia ib =>
    intro m k S hw hm hk
    refine wpP (by simp [W.sz] at hm; omega) A.h ?_
    simp only [W.sz] at hm
    simp [hasF, wD]
    refine R.to (ia (m - 1) k S hw.1 (by omega) hk) ?_
    rintro d T ⟨rfl, g⟩
    cases ha : tr n ts a k with
    | true =>
      simp
      exact ⟨by rw [tr_either, ha]; rfl, g⟩
    | false =>
      simp
      refine R.to (ib (m - 1) k T hw.2 (by omega) hk) ?_
      rintro d T2 ⟨rfl, g2⟩
      simp
      exact ⟨by rw [tr_either, ha]; rfl, g.trans g2⟩
  | one a b ia ib =>
    intro m k S hw hm hk
    refine wpP (by simp [W.sz] at hm; omega) A.h ?_
    simp only [W.sz] at hm
    simp [hasF, wD]
    refine R.to (ia (m - 1) k S hw.1 (by omega) hk) ?_
    rintro d T ⟨rfl, g⟩
    simp
    refine R.to (ib (m - 1) k T hw.2 (by omega) hk) ?_
    rintro d T2 ⟨rfl, g2⟩
    simp
    exact ⟨by rw [tr_one], g.trans g2⟩
  | sg w => intro m k S hw hm hk; exact pl _ m k S hw rfl (by simp [W.sz] at hm; omega) hk
  | many j => intro m k S hw hm hk; exact pl _ m k S hw rfl (by simp [W.sz] at hm; omega) hk
  | ends p j => intro m k S hw hm hk; exact pl _ m k S hw rfl (by simp [W.sz] at hm; omega) hk
  | told bo => intro m k S hw hm hk; exact pl _ m k S hw rfl (by simp [W.sz] at hm; omega) hk
  | tie a b => intro m k S hw hm hk; exact pl _ m k S hw rfl (by simp [W.sz] at hm; omega) hk
  | way a b => intro m k S hw hm hk; exact pl _ m k S hw rfl (by simp [W.sz] at hm; omega) hk
end
end Dv

namespace Dv
open PySem PySem.Spec PyProof.Rows L2 Df
/-! ### comprehensions that lay new things -/
/-- all but the thing at L stays -/
structure GwX (L : Nat) (S T : Sto) : Prop where
  kp : ∀ (j : Nat) o, j ≠ L → S[j]? = some o → T[j]? = some o
  ln : S.length ≤ T.length
theorem Gw.gx {S T : Sto} {L : Nat} (g : Gw S T) : GwX L S T := ⟨fun j o _ e => g.kp j o e, g.ln⟩
theorem GwX.trans {L : Nat} {S T V : Sto} (a : GwX L S T) (b : GwX L T V) : GwX L S V := ⟨fun j o n e => b.kp j o n (a.kp j o n e), Nat.le_trans a.ln b.ln⟩
theorem gx_set {S : Sto} {L : Nat} {o : O} : GwX L S (S.set L o) := ⟨fun j u n e => by rw [List.getElem?_set_ne (Ne.symm n)]; exact e, by rw [List.length_set]; exact Nat.le_refl _⟩
/-- two lists side by side -/
def Zp (P : D → D → Prop) : List D → List D → Prop
  | [], ys => ys = []
  | x :: xs, ys => ∃ y r, ys = y :: r ∧ P x y ∧ Zp P xs r
theorem Zp.imp {P Q : D → D → Prop} (h : ∀ x y, P x y → Q x y) : ∀ {xs ys : List D}, Zp P xs ys → Zp Q xs ys
  | [], _, z => z
  | x :: xs, _, ⟨y, r, e, p, z⟩ => ⟨y, r, e, h x y p, Zp.imp h z⟩
theorem Zp.snoc {P : D → D → Prop} {x y : D} (p : P x y) : ∀ {xs ys : List D}, Zp P xs ys → Zp P (xs ++ [x]) (ys ++ [y])
  | [], ys, z => by have z : ys = [] := z; subst z; exact ⟨y, [], rfl, p, rfl⟩
  | a :: xs, _, ⟨b, r, e, q, z⟩ => by subst e; exact ⟨b, r ++ [y], rfl, q, Zp.snoc p z⟩
theorem Zp.len {P : D → D → Prop} : ∀ {xs ys : List D}, Zp P xs ys → xs.length = ys.length
  | [], ys, z => by have z : ys = [] := z; subst z; rfl
  | _ :: _, _, ⟨_, _, e, _, z⟩ => by subst e; simp [Zp.len z]
theorem Zp.at {P : D → D → Prop} : ∀ {xs ys : List D} {i : Nat} {x : D}, Zp P xs ys → xs[i]? = some x → ∃ y, ys[i]? = some y ∧ P x y
  | [], _, i, x, _, e => by simp at e
  | a :: xs, _, 0, x, ⟨b, r, e, q, z⟩, h => by subst e; simp at h; subst h; exact ⟨b, rfl, q⟩
  | a :: xs, _, i + 1, x, ⟨b, r, e, q, z⟩, h => by
    subst e
    obtain ⟨y, h1, h2⟩ := Zp.at (i := i) z (by simpa using h)
    exact ⟨y, by simpa using h1, h2⟩
theorem Zp.map {P : D → D → Prop} {g : D → D} : ∀ {xs ys : List D}, Zp P xs ys → (∀ x y, x ∈ xs → P x y → y = g x) → ys = xs.map g
  | [], _, z, _ => z
  | a :: xs, _, ⟨b, r, e, q, z⟩, h => by
    subst e
    rw [List.map_cons, h a b List.mem_cons_self q, Zp.map z fun x y hx => h x y (List.mem_cons_of_mem _ hx)]
def lcJ (S0 : Sto) (p : D → Bool) (P : D → D → Sto → Prop) (all : List D) (xs : List D) (T : Sto) : Prop := ∃ dn ys, all = dn ++ xs ∧ T[S0.length]? = some (.lst true ys) ∧ Gw S0 T ∧ Zp (fun x y => P x y T) (dn.filter p) ys
def lcP (S0 : Sto) (p : D → Bool) (P : D → D → Sto → Prop) (xs : List D) (d : D) (T : Sto) : Prop := d = .ref S0.length ∧ Gw S0 T ∧ ∃ ys, T[S0.length]? = some (.lst true ys) ∧ Zp (fun x y => P x y T) (xs.filter p) ys
def elP (P : D → D → Sto → Prop) (x : D) (T : Sto) (y : D) (T' : Sto) : Prop := Gw T T' ∧ P x y T'
theorem lc_gw {S0 : Sto} {chk : Sto → Prop} {t : Tg} {cond : Dv.Env → Sto → R Bool} {elt : Dv.Env → Sto → R D} {ρ : Dv.Env} {p : D → Bool} {P : D → D → Sto → Prop} {xs : List D} {W : Nat → Sto → Prop} (hc : ∀ T, Gw S0 T → chk T) (hs : ∀ x y T T', P x y T → GwX S0.length T T' → P x y T') (hl : xs.length < mx)
    (h : ∀ x ∈ xs, ∃ ρ1, tgD t x ρ = some ρ1 ∧ ∀ T, Gw S0 T → S0.length < T.length → cond ρ1 T = .ok (p x) T ∧ (p x = true → (elt ρ1 T).wp (elP P x T) noX)) :
    (lcGo S0.length chk t cond elt ρ xs (S0 ++ [.lst true []])).wp (lcP S0 p P xs) W := by
  refine lc_inv (lcJ S0 p P xs) ?_ ?_ _ _ ?_
  · rintro x r T ⟨dn, ys, e, hL, gw, z⟩
    obtain ⟨ρ1, h1, h2⟩ := h x (by rw [e]; simp)
    refine ⟨hc T gw, ρ1, h1, ?_⟩
    have lt := (List.getElem?_eq_some_iff.mp hL).1
    obtain ⟨h3, h4⟩ := h2 T gw lt
    rw [h3]
    have ly : ys.length ≤ dn.length := by rw [← z.len]; exact List.length_filter_le _ _
    have le : dn.length + r.length + 1 = xs.length := by rw [e]; simp; omega
    cases hp : p x with
    | false =>
      simp
      exact ⟨dn ++ [x], ys, by rw [e]; simp, hL, gw, by rw [List.filter_append]; simp [hp]; exact z⟩
    | true =>
      simp
      refine R.to (h4 hp) ?_
      rintro y T2 ⟨g2, q⟩
      have hL2 := g2.kp _ _ hL
      have lt2 := (List.getElem?_eq_some_iff.mp hL2).1
      refine ⟨ys, hL2, by omega, dn ++ [x], ys ++ [y], by rw [e]; simp, List.getElem?_set_self lt2, (gw.trans g2).put (Nat.le_refl _), ?_⟩
      rw [List.filter_append, show List.filter p [x] = [x] from by simp [hp]]
      exact Zp.snoc (hs _ _ _ _ q gx_set) (z.imp fun a b q => hs _ _ _ _ q ((g2.gx (L := S0.length)).trans gx_set))
  · rintro T ⟨dn, ys, e, hL, gw, z⟩
    rw [List.append_nil] at e
    subst e
    exact ⟨hc T gw, rfl, gw, ys, hL, z⟩
  · exact ⟨[], [], rfl, by simp, Gw.app _, rfl⟩
/-! ### places reached -/
noncomputable def reB : DenS := (sIf (dAndT (dBl (dOp inD (dOp ixD (dVar 2) (dVar 3)) (dVar 4))) (dBl (dOp ninD (dOp subD (dCl sumD (dCons (dVar 4) dNil)) (dOp ixD (dVar 2) (dVar 3))) (dVar 2)))) (sExpr (dMt appendD (dVar 2) (dCons (dOp subD (dCl sumD (dCons (dVar 4) dNil)) (dOp ixD (dVar 2) (dVar 3))) dNil))) sNil)
noncomputable def reW : DenS := (sSeq (sFor (iVal (dVar 0)) (.nm 4) reB)
    (sAsg (.nm 3) (dOp addD (dVar 3) (dC (.int 1)))))
noncomputable def reF : DenS := (sSeq (sAsg (.nm 2) (dLst (dCons (dVar 1) dNil)))
    (sSeq (sAsg (.nm 3) (dC (.int 0)))
    (sSeq (sWhile 100000 (dBl (dOp ltD (dVar 3) (dCl lenD (dCons (dVar 2) dNil)))) reW)
    (sRet (dVar 2)))))
/-- so far: all unlike, all reached, each one tied to one ahead of it -/
structure Rs (E : Ed) (n : Nat) (p : Int) (fs : List Int) : Prop where
  hd : fs[0]? = some p
  nd : fs.Nodup
  rc : ∀ x ∈ fs, Rch E p x ∧ 0 ≤ x ∧ x < n
  bk : ∀ i x, 0 < i → fs[i]? = some x → ∃ j y, j < i ∧ fs[j]? = some y ∧ Adj E y x
theorem Rs.len {E : Ed} {n : Nat} {p : Int} {fs : List Int} (h : Rs E n p fs) : fs.length ≤ n := by
  have := nd_len (m := (List.range n).map fun (x : Nat) => (x : Int)) h.nd fun x hx => by
    obtain ⟨_, h1, h2⟩ := h.rc x hx
    exact List.mem_map.mpr ⟨x.toNat, List.mem_range.mpr (by omega), by omega⟩
  simpa using this
theorem Rs.snoc {E : Ed} {n : Nat} {p : Int} {fs : List Int} (h : Rs E n p fs) {i : Nat} {z o : Int} (hz : fs[i]? = some z) (a : Adj E z o) (b : 0 ≤ o ∧ o < n) (no : o ∉ fs) : Rs E n p (fs ++ [o]) := by
  have li := (List.getElem?_eq_some_iff.mp hz).1
  refine ⟨by rw [List.getElem?_append_left (by omega)]; exact h.hd, List.nodup_append.mpr ⟨h.nd, by simp, fun x hx y hy e => no (by rw [← List.mem_singleton.mp hy, ← e]; exact hx)⟩, fun x hx => ?_, fun j x hj hx => ?_⟩
  · rcases List.mem_append.mp hx with q | q
    · exact h.rc x q
    · rw [List.mem_singleton.mp q]
      exact ⟨(h.rc z (List.mem_of_getElem? hz)).1.step a, b⟩
  · by_cases c : j < fs.length
    · rw [List.getElem?_append_left c] at hx
      obtain ⟨j', y, h1, h2, h3⟩ := h.bk j x hj hx
      exact ⟨j', y, h1, by rw [List.getElem?_append_left (by omega)]; exact h2, h3⟩
    · have l2 := (List.getElem?_eq_some_iff.mp hx).1
      rw [List.length_append, List.length_singleton] at l2
      have e : j = fs.length := by omega
      subst e
      simp at hx
      subst hx
      exact ⟨i, z, li, by rw [List.getElem?_append_left li]; exact hz, a⟩
def reP (S : Sto) (E : Ed) (n : Nat) (p : Int) (d : D) (T : Sto) : Prop := ∃ l fs, d = .ref l ∧ S.length ≤ l ∧ T[l]? = some (.lst true (fs.map D.int)) ∧ Gw S T ∧ Rs E n p fs ∧ ∀ x, x ∈ fs ↔ Rch E p x
def reJ (S : Sto) (ys : List D) (n : Nat) (p : Int) (l at_ : Nat) (z : Int) (T0f : List Int) (xs : List D) (ρ : Dv.Env) (T : Sto) : Prop := ∃ (o4 : Option D) (dn : List D) (fs : List Int), ρ = [some (.tup ys), some (.int p), some (.ref l), some (.int (at_ : Int)), o4] ∧ ys = dn ++ xs ∧ T[l]? = some (.lst true (fs.map D.int)) ∧ Gw S T ∧ Rs (ys.map keyD) n p fs ∧ fs[at_]? = some z ∧ T0f <+: fs ∧ ∀ a b : Nat, tp a b ∈ dn → ((a : Int) = z → (b : Int) ∈ fs) ∧ ((b : Int) = z → (a : Int) ∈ fs)
def reI (S : Sto) (ys : List D) (n : Nat) (p : Int) (l : Nat) (q : Nat) (ρ : Dv.Env) (T : Sto) : Prop := ∃ (o4 : Option D) (a : Nat) (fs : List Int), ρ = [some (.tup ys), some (.int p), some (.ref l), some (.int (a : Int)), o4] ∧ T[l]? = some (.lst true (fs.map D.int)) ∧ Gw S T ∧ Rs (ys.map keyD) n p fs ∧ a ≤ fs.length ∧ q + a = n ∧ ∀ j, j < a → ∀ x, fs[j]? = some x → ∀ y, Adj (ys.map keyD) x y → y ∈ fs
section
variable {bs : Bodies} {m i : Nat} {S : Sto} {ys : List D} {n : Nat}
theorem in_inT {z a b : Int} : inT z a b = true ↔ z = a ∨ z = b := by simp [inT]
theorem atI_int {fs : List Int} {a : Nat} {z : Int} (h : fs[a]? = some z) : L2.atI (fs.map D.int) (a : Int) = some (.int z) := L2.atI_nat (by rw [List.getElem?_map, h]; rfl)
theorem nin_il {S : Sto} {r : Nat} {b : Bool} {c : List Int} {p : Int} (h : S[r]? = some (.lst b (c.map D.int))) (hl : c.length ≤ 900) : ninD (.int p) (.ref r) S = .ok (.bl (!decide (p ∈ c))) S := by
  have q := in_int (p := p) h hl
  unfold inD at q
  unfold ninD
  cases e : inB (.int p) (.ref r) S with
  | none => rw [e] at q; cases q
  | some v => rw [e] at q; simp at q; rw [q]
theorem reached_ok (hR : bs[i]? = some (reF, 5)) (hm : 2 ≤ m) (hy : TW n ys) (hn : n ≤ 8) {p : Int} (hp : 0 ≤ p ∧ p < n) : (Phi bs m 0 i [.tup ys, .int p] S).wp (reP S (ys.map keyD) n p) noX := by
  refine wpP hm hR ?_
  simp [reF]
  refine wh_inv (reI S ys n p S.length) ?_ 100000 n _ _ (by omega) ?_
  · rintro q ρ T ⟨o4, a, fs, rfl, hT, gw, rs, la, qa, cl⟩
    have ln := rs.len
    have lt := (List.getElem?_eq_some_iff.mp hT).1
    refine ⟨decide (a < fs.length), R.eq_of (by simp [hT]), fun e => ?_, fun e => ?_⟩
    · have e := of_decide_eq_true e
      refine ⟨q - 1, by omega, ?_⟩
      obtain ⟨z, hz⟩ : ∃ z, fs[a]? = some z := ⟨fs[a], List.getElem?_eq_getElem e⟩
      simp [reW]
      refine for_inv (reJ S ys n p S.length a z fs) ?_ ?_ _ _ _ ?_
      · rintro x xs ρ T2 ⟨o4, dn, gs, rfl, ey, hT2, gw2, rs2, hz2, pf, cl2⟩
        have hx : x ∈ ys := by rw [ey]; simp
        obtain ⟨u, v, rfl, luv, lv⟩ := tie_sh (hy.it x hx)
        have lt2 := (List.getElem?_eq_some_iff.mp hT2).1
        have ln2 := rs2.len
        have az := atI_int hz2
        have mem : ((u : Int), (v : Int)) ∈ ys.map keyD := List.mem_map.mpr ⟨_, hx, rfl⟩
        refine ⟨trivial, _, rfl, ?_⟩
        have nx : ∀ gs', gs <+: gs' → Rs (ys.map keyD) n p gs' → (((u : Int) = z → (v : Int) ∈ gs') ∧ ((v : Int) = z → (u : Int) ∈ gs')) → ∀ T3, T3[S.length]? = some (.lst true (gs'.map D.int)) → Gw S T3 → reJ S ys n p S.length a z fs xs [some (.tup ys), some (.int p), some (.ref S.length), some (.int (a : Int)), some (.tup [.int (u : Int), .int (v : Int)])] T3 := fun gs' pg rg hh T3 h3 g3 => by
          refine ⟨_, dn ++ [tp u v], gs', rfl, by rw [ey]; simp [tp], h3, g3, rg, ?_, pf.trans pg, fun a' b' h' => ?_⟩
          · obtain ⟨t, rfl⟩ := pg
            rw [List.getElem?_append_left (List.getElem?_eq_some_iff.mp hz2).1]; exact hz2
          · rcases List.mem_append.mp h' with w | w
            · obtain ⟨c1, c2⟩ := cl2 a' b' w
              exact ⟨fun e => pg.subset (c1 e), fun e => pg.subset (c2 e)⟩
            · have e := List.mem_singleton.mp w
              unfold tp at e
              simp only [D.tup.injEq, List.cons.injEq, D.int.injEq, and_true] at e
              rw [show a' = u from by omega, show b' = v from by omega]
              exact hh
        by_cases c : inT z u v = true
        · obtain ⟨o, ho, ad, bo, key⟩ : ∃ o : Int, (u : Int) + (v : Int) - z = o ∧ Adj (ys.map keyD) z o ∧ (0 ≤ o ∧ o < n) ∧ ∀ gs' : List Int, o ∈ gs' → (((u : Int) = z → (v : Int) ∈ gs') ∧ ((v : Int) = z → (u : Int) ∈ gs')) := by
            rcases in_inT.mp c with e | e
            · refine ⟨v, by omega, ?_, by omega, fun gs' h => ⟨fun _ => h, fun e' => by omega⟩⟩
              rw [e]; exact .inl mem
            · refine ⟨u, by omega, ?_, by omega, fun gs' h => ⟨fun e' => by omega, fun _ => h⟩⟩
              rw [e]; exact .inr mem
          by_cases c2 : o ∈ gs
          · simp [reB, hT2, az, in_t2, c, ho, nin_il hT2 (show gs.length ≤ 900 by omega), c2]
            exact nx gs (List.prefix_refl _) rs2 (key gs c2) T2 hT2 gw2
          · simp [reB, hT2, az, in_t2, c, ho, nin_il hT2 (show gs.length ≤ 900 by omega), c2]
            refine ⟨by omega, ?_⟩
            refine nx (gs ++ [o]) (List.prefix_append _ _) (rs2.snoc hz2 ad bo c2) (key _ (by simp)) _ ?_ (gw2.put (Nat.le_refl _))
            rw [List.getElem?_set_self lt2]; simp
        · have c' : inT z u v = false := Bool.eq_false_iff.mpr c
          simp [reB, hT2, az, in_t2, c']
          refine nx gs (List.prefix_refl _) rs2 ⟨fun e => absurd (in_inT.mpr (.inl e.symm)) c, fun e => absurd (in_inT.mpr (.inr e.symm)) c⟩ T2 hT2 gw2
      · rintro ρ T2 ⟨o4, dn, gs, rfl, ey, hT2, gw2, rs2, hz2, pf, cl2⟩
        refine ⟨trivial, ?_⟩
        rw [List.append_nil] at ey
        simp
        refine ⟨o4, a + 1, gs, rfl, hT2, gw2, rs2, (List.getElem?_eq_some_iff.mp hz2).1, by omega, fun j hj x hx y hxy => ?_⟩
        by_cases cj : j < a
        · have hx' : fs[j]? = some x := by
            obtain ⟨t, rfl⟩ := pf
            rw [List.getElem?_append_left (by omega)] at hx; exact hx
          exact pf.subset (cl j cj x hx' y hxy)
        · have ej : j = a := by omega
          subst ej
          rw [hz2] at hx
          cases hx
          rcases hxy with w | w <;> obtain ⟨t, ht, e⟩ := List.mem_map.mp w <;> obtain ⟨u, v, rfl, luv, lv⟩ := tie_sh (hy.it t ht) <;> (have e : ((u : Int), (v : Int)) = _ := e; cases e)
          · exact (cl2 u v (by rw [← ey]; exact ht)).1 rfl
          · exact (cl2 u v (by rw [← ey]; exact ht)).2 rfl
      · exact ⟨o4, [], fs, rfl, rfl, hT, gw, rs, hz, List.prefix_refl _, fun a b h => (nomatch h)⟩
    · have e := of_decide_eq_false e
      simp
      refine ⟨_, fs, rfl, Nat.le_refl _, hT, gw, rs, fun x => ⟨fun hx => (rs.rc x hx).1, fun r => ?_⟩⟩
      induction r with
      | refl => exact List.mem_of_getElem? rs.hd
      | @step b c r s ih =>
        obtain ⟨j, hj, ej⟩ := List.mem_iff_getElem.mp ih
        exact cl j (by omega) b (by rw [List.getElem?_eq_getElem hj, ej]) c s
  · refine ⟨none, 0, [p], rfl, by simp, Gw.app _, ⟨rfl, by simp, fun x hx => ?_, fun i x hi hx => ?_⟩, by simp, by omega, fun j hj => by omega⟩
    · rw [List.mem_singleton.mp hx]; exact ⟨.refl, hp⟩
    · have := (List.getElem?_eq_some_iff.mp hx).1
      simp at this; omega
end
end Dv

namespace Dv
open PySem PySem.Spec PyProof.Rows L2 Df
/-! ### two sides -/
noncomputable def tsB3 : DenS := (sIf (dBl (dOp inD (dVar 4) (dVar 5))) (sExpr (dSd (dVar 2) (dOp subD (dCl sumD (dCons (dVar 5) dNil)) (dVar 4)) (dOp subD (dC (.int 1)) (dOp ixA (dVar 2) (dVar 4))))) sNil)
noncomputable def tsB2 : DenS := (sFor (iVal (dVar 1)) (.nm 5) tsB3)
noncomputable def tsB1b (iR : Nat) : DenS := (sFor (iVal (dCallF iR 2 (dCons (dVar 1) (dCons (dVar 3) dNil)))) (.nm 4) tsB2)
noncomputable def tsB1 (iR : Nat) : DenS := (sIf (dBl (dOp ninD (dVar 3) (dVar 2))) (sSeq (sSubW setA (dVar 2) (dVar 3) (dC (.int 0))) (tsB1b iR)) sNil)
noncomputable def tsR : DenS := (sRet (dOp eqD (dLc (iVal (dVar 1)) (.nm 5) (dBl (dOp eqD (dOp ixA (dVar 2) (dOp ixA (dVar 5) (dC (.int 0)))) (dOp ixA (dVar 2) (dOp ixA (dVar 5) (dC (.int 1)))))) (dVar 5) [5]) (dLst dNil)))
noncomputable def tsF (iR : Nat) : DenS := (sSeq (sAsg (.nm 2) dDk0)
    (sSeq (sFor (iRange1 (dCons (dOp ixA (dVar 0) (dC (.int 0))) dNil)) (.nm 3) (tsB1 iR)) tsR))
/-- sides so far: of the places in X -/
structure Sds (E : Ed) (n : Nat) (f : Nat → Int) (kvs : List (L2.Key × D)) (X : Nat → Prop) : Prop where
  dom : ∀ x : Nat, x < n → ((valK kvs (.inl (x : Int))).isSome = true ↔ X x)
  val : ∀ (x : Nat) v, x < n → valK kvs (.inl (x : Int)) = some v → ∃ u : Int, v = .int u ∧ (u = 0 ∨ u = 1) ∧ ∀ c, Col E c → u = (c (x : Int) + c (f x)) % 2
  len : kvs.length ≤ 1000
theorem valK_cons {q : L2.Key × D} {r : List (L2.Key × D)} {k : L2.Key} : valK (q :: r) k = if q.1 = k then some q.2 else valK r k := by
  unfold valK
  rw [List.find?_cons]
  by_cases e : q.1 = k <;> simp [e]
theorem val_map {k j : L2.Key} {v : D} : ∀ {kvs : List (L2.Key × D)}, valK (kvs.map fun q => if q.1 = k then (q.1, v) else q) j = if j = k then (valK kvs k).map (fun _ => v) else valK kvs j
  | [] => by simp [valK]
  | q :: r => by
    rw [List.map_cons, valK_cons, valK_cons, valK_cons, val_map]
    by_cases e : q.1 = k
    · by_cases c : j = k
      · subst c; simp [e]
      · have c' : ¬ (k = j) := fun z => c z.symm
        simp [e, c, c']
    · by_cases c : j = k
      · subst c; simp [e]
      · simp [e, c]
theorem val_any {k : L2.Key} : ∀ {kvs : List (L2.Key × D)}, (kvs.any fun q => decide (q.1 = k)) = (valK kvs k).isSome
  | [] => rfl
  | q :: r => by
    rw [List.any_cons, valK_cons, val_any]
    by_cases e : q.1 = k <;> simp [e]
theorem val_app {k j : L2.Key} {v : D} : ∀ {kvs : List (L2.Key × D)}, valK (kvs ++ [(k, v)]) j = match valK kvs j with | some d => some d | none => if k = j then some v else none
  | [] => by rw [List.nil_append, valK_cons]; rfl
  | q :: r => by
    rw [List.cons_append, valK_cons, valK_cons, val_app]
    by_cases e : q.1 = j <;> simp [e]
theorem val_set {kvs : List (L2.Key × D)} {k j : L2.Key} {v : D} : valK (setK kvs k v) j = if j = k then some v else valK kvs j := by
  unfold setK
  rw [val_any]
  cases h : valK kvs k with
  | some d =>
    simp only [Option.isSome_some, if_true]
    rw [val_map, h]
    rfl
  | none =>
    simp only [Option.isSome_none, Bool.false_eq_true, if_false]
    rw [val_app]
    by_cases c : j = k
    · subst c; simp [h]
    · have c' : ¬ (k = j) := fun z => c z.symm
      rw [if_neg c, if_neg c']
      cases valK kvs j <;> rfl
theorem set_len {kvs : List (L2.Key × D)} {k : L2.Key} {v : D} : (setK kvs k v).length ≤ kvs.length + 1 := by
  unfold setK
  split <;> simp
/-- each place's own side, first of its part -/
theorem Sds.put {E : Ed} {n : Nat} {f : Nat → Int} {kvs : List (L2.Key × D)} {X : Nat → Prop} (h : Sds E n f kvs X) {o : Nat} {u : Int} (hu : u = 0 ∨ u = 1) (hc : ∀ c, Col E c → u = (c (o : Int) + c (f o)) % 2) (hl : kvs.length < 1000) : Sds E n f (setK kvs (.inl (o : Int)) (.int u)) fun x => X x ∨ x = o := by
  refine ⟨fun x hx => ?_, fun x v hx hv => ?_, by have := set_len (kvs := kvs) (k := .inl (o : Int)) (v := .int u); omega⟩
  · rw [val_set]
    by_cases e : x = o
    · subst e; simp
    · have : ¬ ((Sum.inl (x : Int) : L2.Key) = Sum.inl (o : Int)) := fun z => e (by have := Sum.inl.inj z; omega)
      rw [if_neg this, h.dom x hx]
      simp [e]
  · rw [val_set] at hv
    by_cases e : x = o
    · subst e
      rw [if_pos rfl] at hv
      cases hv
      exact ⟨u, rfl, hu, hc⟩
    · have : ¬ ((Sum.inl (x : Int) : L2.Key) = Sum.inl (o : Int)) := fun z => e (by have := Sum.inl.inj z; omega)
      rw [if_neg this] at hv
      exact h.val x v hx hv
def tE (fr : D) (ys : List D) (dl : Nat) (o3 o4 o5 : Option D) : Dv.Env := [some fr, some (.tup ys), some (.ref dl), o3, o4, o5]
section
variable {bs : Bodies} {m iR i : Nat} {S : Sto} {ys : List D} {n : Nat} {f : Nat → Int}
/-- within a place's ties -/
def tsJ3 (S T0 : Sto) (f : Nat → Int) (n : Nat) (frr : D) (ys : List D) (dl : Nat) (o3 : Option D) (h N : Nat) (X : Nat → Prop) (xs : List D) (ρ : Dv.Env) (T : Sto) : Prop := ∃ (o5 : Option D) (dn : List D) (kvs : List (L2.Key × D)) (Y : Nat → Prop), ρ = tE frr ys dl o3 (some (.int (h : Int))) o5 ∧ ys = dn ++ xs ∧ T[dl]? = some (.dk kvs) ∧ Sds (ys.map keyD) n f kvs Y ∧ kvs.length + xs.length ≤ N ∧ GwX dl T0 T ∧ (∀ x, X x → Y x) ∧ (∀ x, Y x → X x ∨ Adj (ys.map keyD) (h : Int) (x : Int)) ∧ ∀ a b : Nat, tp a b ∈ dn → (a = h → Y b) ∧ (b = h → Y a)
theorem ts3_ok (hy : TW n ys) (hn : n ≤ 8) (hf : Mk (ys.map keyD) n f) {frr : D} {dl h N : Nat} (hN : N ≤ 900) {o3 : Option D} {T0 : Sto} (hh : h < n) {X : Nat → Prop} (hX : X h) {x : D} {xs : List D} {ρ : Dv.Env} {T : Sto} (hJ : tsJ3 S T0 f n frr ys dl o3 h N X (x :: xs) ρ T) {Q : Fl → Sto → Prop} :
    ∃ ρ1, tgD (.nm 5) x ρ = some ρ1 ∧ (tsB3 (Phi bs m) ρ1 T).wp (forQ (tsJ3 S T0 f n frr ys dl o3 h N X xs) Q) noX := by
  obtain ⟨o5, dn, kvs, Y, rfl, ey, hd, sd, kl, gx, xy, yx, cl⟩ := hJ
  have hx : x ∈ ys := by rw [ey]; simp
  obtain ⟨u, v, rfl, luv, lv⟩ := tie_sh (hy.it x hx)
  have mem : ((u : Int), (v : Int)) ∈ ys.map keyD := List.mem_map.mpr ⟨_, hx, rfl⟩
  have lt := (List.getElem?_eq_some_iff.mp hd).1
  rw [List.length_cons] at kl
  refine ⟨_, rfl, ?_⟩
  have nx : ∀ (kvs' : List (L2.Key × D)) (Y' : Nat → Prop) (T3 : Sto), T3[dl]? = some (.dk kvs') → Sds (ys.map keyD) n f kvs' Y' → kvs'.length ≤ kvs.length + 1 → GwX dl T0 T3 → (∀ x : Nat, Y x → Y' x) → (∀ x, Y' x → X x ∨ Adj (ys.map keyD) (h : Int) (x : Int)) → ((u = h → Y' v) ∧ (v = h → Y' u)) → tsJ3 S T0 f n frr ys dl o3 h N X xs (tE frr ys dl o3 (some (.int (h : Int))) (some (.tup [.int (u : Int), .int (v : Int)]))) T3 := fun kvs' Y' T3 h3 s3 l3 g3 yy y2 hh => by
    refine ⟨_, dn ++ [tp u v], kvs', Y', rfl, by rw [ey]; simp [tp], h3, s3, by omega, g3, fun x hx => yy x (xy x hx), y2, fun a b hab => ?_⟩
    rcases List.mem_append.mp hab with w | w
    · obtain ⟨c1, c2⟩ := cl a b w
      exact ⟨fun e => yy _ (c1 e), fun e => yy _ (c2 e)⟩
    · have e := List.mem_singleton.mp w
      unfold tp at e
      simp only [D.tup.injEq, List.cons.injEq, D.int.injEq, and_true] at e
      rw [show a = u from by omega, show b = v from by omega]
      exact hh
  by_cases c : inT (h : Int) u v = true
  · obtain ⟨o, ho, ad, bo, key⟩ : ∃ o : Nat, (u : Int) + (v : Int) - (h : Int) = (o : Int) ∧ Adj (ys.map keyD) (h : Int) (o : Int) ∧ o < n ∧ ∀ Y' : Nat → Prop, Y' o → ((u = h → Y' v) ∧ (v = h → Y' u)) := by
      rcases in_inT.mp c with e | e
      · refine ⟨v, by omega, ?_, by omega, fun Y' h => ⟨fun _ => h, fun e' => by omega⟩⟩
        rw [e]; exact .inl mem
      · refine ⟨u, by omega, ?_, by omega, fun Y' h => ⟨fun e' => by omega, fun _ => h⟩⟩
        rw [e]; exact .inr mem
    have sh := (sd.dom h hh).mpr (xy h hX)
    obtain ⟨w, hw⟩ := Option.isSome_iff_exists.mp sh
    obtain ⟨uu, rfl, b01, pc⟩ := sd.val h w hh hw
    have ixh : ixA (.ref dl) (.int (h : Int)) T = .ok (.int uu) T := by rw [ix_dk hd, hw]; rfl
    have dki : (dkD (.ref dl) T).isSome = true := by rw [dk_is hd]; rfl
    simp [tsB3, tE, in_t2, c, dki, ho, ixh, hd, sdO]
    refine ⟨by omega, ?_⟩
    cases hv : valK kvs (.inl (o : Int)) with
    | some w =>
      simp
      have yo : Y o := (sd.dom o bo).mp (by rw [hv]; rfl)
      exact nx kvs Y T hd sd (by omega) gx (fun _ h => h) yx (key Y yo)
    | none =>
      simp
      refine nx _ (fun x : Nat => Y x ∨ x = o) _ (List.getElem?_set_self lt) (sd.put (o := o) (u := 1 - uu) (by omega) (fun cc hcc => ?_) (by omega)) set_len (gx.trans gx_set) (fun x h => .inl h) (fun x h => ?_) (key (fun x : Nat => Y x ∨ x = o) (Or.inr rfl))
      · have := pc cc hcc
        have e : f o = f h := (hf.eq bo hh).mpr (Rch.one ad.symm)
        have ne := hcc.2 _ _ ad
        have := hcc.1 (h : Int)
        have := hcc.1 (o : Int)
        have := hcc.1 (f h)
        rw [e]
        omega
      · rcases h with h | h
        · exact yx x h
        · subst h; exact .inr ad
  · have c' : inT (h : Int) u v = false := Bool.eq_false_iff.mpr c
    simp [tsB3, tE, in_t2, c']
    exact nx kvs Y T hd sd (by omega) gx (fun _ h => h) yx ⟨fun e => absurd (in_inT.mpr (.inl (by omega))) c, fun e => absurd (in_inT.mpr (.inr (by omega))) c⟩
/-- places of a part -/
def tsJ2 (S T0 : Sto) (f : Nat → Int) (n : Nat) (frr : D) (ys : List D) (dl l p N : Nat) (fs : List Int) (X : Nat → Prop) (xs : List D) (ρ : Dv.Env) (T : Sto) : Prop := ∃ (o4 o5 : Option D) (dn rs : List Int) (kvs : List (L2.Key × D)) (Y : Nat → Prop), ρ = tE frr ys dl (some (.int (p : Int))) o4 o5 ∧ fs = dn ++ rs ∧ xs = rs.map D.int ∧ T[dl]? = some (.dk kvs) ∧ Sds (ys.map keyD) n f kvs Y ∧ kvs.length + 7 * rs.length ≤ N ∧ GwX dl T0 T ∧ (∀ x, X x → Y x) ∧ Y p ∧ (∀ x, Y x → X x ∨ Rch (ys.map keyD) (p : Int) (x : Int)) ∧ ∀ z ∈ dn, ∀ x : Nat, x < n → Adj (ys.map keyD) z (x : Int) → Y x
theorem ts2_ok (hy : TW n ys) (hn : n ≤ 8) (hf : Mk (ys.map keyD) n f) {frr : D} {dl l p N : Nat} (hN : N ≤ 800) {fs : List Int} {T0 : Sto} (hrs : Rs (ys.map keyD) n (p : Int) fs) {X : Nat → Prop} {x : D} {xs : List D} {ρ : Dv.Env} {T : Sto} (hJ : tsJ2 S T0 f n frr ys dl l p N fs X (x :: xs) ρ T) {Q : Fl → Sto → Prop} :
    ∃ ρ1, tgD (.nm 4) x ρ = some ρ1 ∧ (tsB2 (Phi bs m) ρ1 T).wp (forQ (tsJ2 S T0 f n frr ys dl l p N fs X xs) Q) noX := by
  obtain ⟨o4, o5, dn, rs, kvs, Y, rfl, ef, ex, hd, sd, kl, gx, xy, yp, yx, cl⟩ := hJ
  cases rs with
  | nil => simp at ex
  | cons z rs =>
    rw [List.map_cons] at ex
    cases ex
    have hz : z ∈ fs := by rw [ef]; simp
    obtain ⟨rz, z0, z1⟩ := hrs.rc z hz
    obtain ⟨h, rfl⟩ : ∃ h : Nat, z = (h : Int) := ⟨z.toNat, by omega⟩
    have hh : h < n := by omega
    -- it has its side already
    have yh : Y h := by
      have ei : fs[dn.length]? = some (h : Int) := by rw [ef]; simp
      by_cases d0 : dn.length = 0
      · have : fs[0]? = some (h : Int) := by rw [← d0]; exact ei
        rw [hrs.hd] at this
        have e : (p : Int) = (h : Int) := Option.some.inj this
        rw [show h = p from by omega]
        exact yp
      · obtain ⟨j, y, lj, hj, ad⟩ := hrs.bk _ _ (by omega) ei
        refine cl y ?_ h hh ad
        rw [ef, List.getElem?_append_left lj] at hj
        exact List.mem_of_getElem? hj
    rw [List.length_cons] at kl
    have ly := hy.ln
    refine ⟨_, rfl, ?_⟩
    simp [tsB2, tE]
    refine for_inv (tsJ3 S T f n frr ys dl (some (.int (p : Int))) h (kvs.length + ys.length) Y) ?_ ?_ _ _ _ ?_
    · intro x xs ρ T2 h2
      exact ⟨trivial, ts3_ok hy hn hf (by omega) hh yh h2⟩
    · rintro ρ T2 ⟨o5, dn2, kvs2, Y2, rfl, ey, hd2, sd2, kl2, gx2, xy2, yx2, cl2⟩
      refine ⟨trivial, ?_⟩
      rw [List.append_nil] at ey
      simp
      refine ⟨_, _, dn ++ [(h : Int)], rs, kvs2, Y2, rfl, by rw [ef]; simp, rfl, hd2, sd2, ?_, gx.trans gx2, fun x hx => xy2 x (xy x hx), xy2 p yp, fun x hx => ?_, fun z hz x hx ad => ?_⟩
      · simp at kl2; omega
      · rcases yx2 x hx with q | q
        · exact yx x q
        · exact .inr (rz.step q)
      · rcases List.mem_append.mp hz with q | q
        · exact xy2 x (cl z q x hx ad)
        · rw [List.mem_singleton.mp q] at ad
          rcases ad with w | w <;> obtain ⟨t, ht, e⟩ := List.mem_map.mp w <;> obtain ⟨u, v, rfl, luv, lv⟩ := tie_sh (hy.it t ht) <;> (have e : ((u : Int), (v : Int)) = _ := e; simp only [Prod.mk.injEq] at e)
          · have := (cl2 u v (by rw [← ey]; exact ht)).1 (by omega)
            rw [show x = v from by omega]; exact this
          · have := (cl2 u v (by rw [← ey]; exact ht)).2 (by omega)
            rw [show x = u from by omega]; exact this
    · exact ⟨_, [], kvs, Y, rfl, rfl, hd, sd, Nat.le_refl _, ⟨fun _ _ _ e => e, Nat.le_refl _⟩, fun _ h => h, fun _ h => .inl h, fun a b h => (nomatch h)⟩
end
end Dv

namespace Dv
open PySem PySem.Spec PyProof.Rows L2 Df
theorem Gw.gxt {S T0 T : Sto} {dl : Nat} (g : Gw S T0) (hl : S.length ≤ dl) (h : GwX dl T0 T) : Gw S T := ⟨fun j o e => h.kp j o (by have := (List.getElem?_eq_some_iff.mp e).1; omega) (g.kp j o e), Nat.le_trans g.ln h.ln⟩
def sdv (kvs : List (L2.Key × D)) (x : Int) : Int := match valK kvs (.inl x) with
  | some (.int u) => u
  | _ => 0
def sdp (kvs : List (L2.Key × D)) (d : D) : Bool := decide (sdv kvs (keyD d).1 = sdv kvs (keyD d).2)
section
variable {bs : Bodies} {m iR i : Nat} {S : Sto} {ys : List D} {n : Nat} {f : Nat → Int}
theorem Sds.at {E : Ed} {kvs : List (L2.Key × D)} {X : Nat → Prop} (h : Sds E n f kvs X) {x : Nat} (hx : x < n) (hX : X x) : valK kvs (.inl (x : Int)) = some (.int (sdv kvs (x : Int))) ∧ (sdv kvs (x : Int) = 0 ∨ sdv kvs (x : Int) = 1) ∧ ∀ c, Col E c → sdv kvs (x : Int) = (c (x : Int) + c (f x)) % 2 := by
  obtain ⟨v, hv⟩ := Option.isSome_iff_exists.mp ((h.dom x hx).mpr hX)
  obtain ⟨u, rfl, h1, h2⟩ := h.val x v hx hv
  have e : sdv kvs (x : Int) = u := by unfold sdv; rw [hv]
  rw [e]
  exact ⟨hv, h1, h2⟩
/-- whether sides can be laid -/
def tsP (S : Sto) (E : Ed) (d : D) (T : Sto) : Prop := Gw S T ∧ ∃ b : Bool, d = .bl b ∧ (b = true ↔ ∃ c, Col E c)
def tsJ1 (S : Sto) (f : Nat → Int) (n : Nat) (frr : D) (ys : List D) (xs : List D) (ρ : Dv.Env) (T : Sto) : Prop := ∃ (c k : Nat) (o3 o4 o5 : Option D) (kvs : List (L2.Key × D)), ρ = tE frr ys S.length o3 o4 o5 ∧ xs = (List.range' c k).map iD ∧ c + k = n ∧ T[S.length]? = some (.dk kvs) ∧ Sds (ys.map keyD) n f kvs (fun x => f x < (c : Int)) ∧ kvs.length ≤ 60 * c ∧ Gw S T
theorem tsR_ok {F : DenS} (hF : F = tsR) (hy : TW n ys) (hn : n ≤ 8) (hf : Mk (ys.map keyD) n f) {frr : D} {o3 o4 o5 : Option D} {kvs : List (L2.Key × D)} {T : Sto} (hd : T[S.length]? = some (.dk kvs)) (sd : Sds (ys.map keyD) n f kvs (fun x => f x < (n : Int))) (gw : Gw S T) :
    (F (Phi bs m) (tE frr ys S.length o3 o4 o5) T).wp (FlR (tsP S (ys.map keyD)) noX) noX := by
  subst hF
  have ab : AllB ys := inn_b hy.inn hn
  have ly := hy.ln
  have hX : ∀ x : Nat, x < n → f x < (n : Int) := fun x hx => (hf.rg x hx).2
  unfold tsR
  simp [tE, wipeE]
  rw [lc_pure (p := sdp kvs) (g := id) (fun acc => trivial) (fun w hw => ?_) (by simp; omega)]
  · have fl : (ys.filter (sdp kvs)).length ≤ ys.length := List.length_filter_le _ _
    have abf : AllB (ys.filter (sdp kvs)) := fun y hy => ab y (List.mem_filter.mp hy).1
    simp
    rw [eq_emp (ws := ys.filter (sdp kvs)) (b := true) (b' := true) (by simp) (by simp) abf (by omega)]
    simp
    refine ⟨gw.trans (Gw.app _), _, rfl, ?_⟩
    rw [decide_eq_true_eq]
    constructor
    · intro h
      have h' : ∀ y ∈ ys, sdp kvs y = false := h
      refine ⟨fun x => if 0 ≤ x ∧ x < n then sdv kvs x else 0, fun x => ?_, fun x y hxy => ?_⟩
      · simp only
        split
        · rename_i c
          have := (sd.at (x := x.toNat) (by omega) (hX _ (by omega))).2.1
          rw [show ((x.toNat : Nat) : Int) = x from by omega] at this
          exact this
        · exact .inl rfl
      · have key : ∀ x y : Int, (x, y) ∈ ys.map keyD → (if 0 ≤ x ∧ x < n then sdv kvs x else 0) ≠ (if 0 ≤ y ∧ y < n then sdv kvs y else 0) := fun x y hm => by
          obtain ⟨w, hw, e⟩ := List.mem_map.mp hm
          obtain ⟨a, b, rfl, l1, l2⟩ := tie_sh (hy.it w hw)
          have := h' _ hw
          unfold sdp at this
          rw [e] at this
          have e : ((a : Int), (b : Int)) = (x, y) := e
          cases e
          rw [if_pos (by omega), if_pos (by omega)]
          exact of_decide_eq_false this
        rcases hxy with z | z
        · exact key x y z
        · exact fun e => key y x z e.symm
    · rintro ⟨c, hc⟩ y hyy
      obtain ⟨a, b, rfl, l1, l2⟩ := tie_sh (hy.it y hyy)
      have mem : ((a : Int), (b : Int)) ∈ ys.map keyD := List.mem_map.mpr ⟨_, hyy, rfl⟩
      unfold sdp
      rw [decide_eq_false_iff_not]
      show ¬ (sdv kvs (a : Int) = sdv kvs (b : Int))
      rw [(sd.at (x := a) (by omega) (hX _ (by omega))).2.2 c hc, (sd.at (x := b) (by omega) (hX _ (by omega))).2.2 c hc]
      have e : f a = f b := (hf.eq (by omega) l2).mpr (Rch.one (.inl mem))
      have := hc.2 _ _ (.inl mem)
      have := hc.1 (a : Int)
      have := hc.1 (b : Int)
      have := hc.1 (f a)
      rw [e]
      omega
  · obtain ⟨a, b, rfl, l1, l2⟩ := tie_sh (hy.it w hw)
    have ha := (sd.at (x := a) (by omega) (hX _ (by omega))).1
    have hb := (sd.at (x := b) (by omega) (hX _ (by omega))).1
    have lt := (List.getElem?_eq_some_iff.mp hd).1
    have hd' : ∀ W : Sto, (T ++ W)[S.length]? = some (.dk kvs) := fun W => by rw [List.getElem?_append_left lt]; exact hd
    refine ⟨_, rfl, fun acc => ⟨R.eq_of ?_, fun _ => R.eq_of (by simp)⟩⟩
    simp [ix_dk (hd' _), ha, hb, sdp, keyD]
    exact decide_eq_decide.mpr Iff.rfl
theorem two_ok (hR : bs[iR]? = some (reF, 5)) (hT : bs[i]? = some (tsF iR, 6)) (hm : 4 ≤ m) (hy : TW n ys) (hn : n ≤ 8) {tt : D} : (Phi bs m 0 i [.tup [.int (n : Int), tt], .tup ys] S).wp (tsP S (ys.map keyD)) noX := by
  obtain ⟨f, hf⟩ := mk_ex hy.inn
  refine wpP (by omega) hT ?_
  unfold tsF
  generalize hG : tsR = G
  simp
  refine ⟨by omega, ?_⟩
  refine for_inv (tsJ1 S f n (.tup [.int (n : Int), tt]) ys) ?_ ?_ _ _ _ ?_
  · rintro x xs ρ T ⟨c, k, o3, o4, o5, kvs, rfl, ex, ck, hd, sd, kl, gw⟩
    obtain ⟨k', rfl, rfl, rfl⟩ := rng_cons ex
    have hc : c < n := by omega
    have fc : f c ≤ (c : Int) := hf.lo c c hc hc .refl
    have lt := (List.getElem?_eq_some_iff.mp hd).1
    refine ⟨trivial, _, rfl, ?_⟩
    by_cases e : f c = (c : Int)
    · have nin : (valK kvs (.inl (c : Int))).isSome = false := by
        rw [Bool.eq_false_iff]; intro z
        have := (sd.dom c hc).mp z
        omega
      simp [tsB1, tE, iD, nin_dk hd, nin, set_dk hd (show kvs.length ≤ mx by simp; omega)]
      unfold tsB1b
      simp
      refine R.to (reached_ok hR (by omega) hy hn ⟨by omega, by omega⟩) ?_
      rintro d T2 ⟨l, fs, rfl, ll, hl, g2, rs, mem⟩
      have sd0 := sd.put (o := c) (u := 0) (.inl rfl) (fun cc hcc => by rw [e]; have := hcc.1 (c : Int); omega) (by omega)
      have hd2 : T2[S.length]? = some (.dk (setK kvs (.inl (c : Int)) (.int 0))) := g2.kp _ _ (List.getElem?_set_self lt)
      have ln := rs.len
      have sl := set_len (kvs := kvs) (k := .inl (c : Int)) (v := .int 0)
      have gT2 : Gw S T2 := (gw.put (Nat.le_refl _)).trans g2
      have lne : l ≠ S.length := by rw [List.length_set] at ll; omega
      simp [hl]
      refine for_inv (tsJ2 S T2 f n (.tup [.int (n : Int), tt]) ys S.length l c (kvs.length + 1 + 7 * fs.length) fs (fun x => f x < (c : Int) ∨ x = c)) ?_ ?_ _ _ _ ?_
      · intro x xs ρ T3 h3
        refine ⟨?_, ts2_ok hy hn hf (by omega) rs h3⟩
        obtain ⟨_, _, _, _, _, _, _, _, _, _, _, _, gx, _⟩ := h3
        exact gx.kp _ _ lne hl
      · rintro ρ T3 ⟨o4, o5, dn, rs', kvs3, Y, rfl, ef, ex, hd3, sd3, kl3, gx3, xy, yp, yx, cl⟩
        have r0 : rs' = [] := by simpa using ex.symm
        subst r0
        rw [List.append_nil] at ef
        subst ef
        refine ⟨gx3.kp _ _ lne hl, ?_⟩
        simp
        have hY : ∀ x : Nat, x < n → (Y x ↔ f x < ((c + 1 : Nat) : Int)) := fun x hx => by
          constructor
          · intro y
            rcases yx x y with (q | q) | q
            · omega
            · subst q; omega
            · have := (hf.eq hx hc).mpr q.symm
              omega
          · intro q
            by_cases q2 : f x < (c : Int)
            · exact xy x (.inl q2)
            · have r : Rch (ys.map keyD) (c : Int) (x : Int) := ((hf.eq hx hc).mp (by omega)).symm
              by_cases xc : x = c
              · subst xc; exact xy x (.inr rfl)
              · have hm := (mem _).mpr r
                obtain ⟨j, hj, ej⟩ := List.mem_iff_getElem.mp hm
                have hjx : fs[j]? = some (x : Int) := by rw [List.getElem?_eq_getElem hj, ej]
                by_cases j0 : j = 0
                · subst j0
                  rw [rs.hd] at hjx
                  have := Option.some.inj hjx
                  omega
                · obtain ⟨j', y, lj, hy', ad⟩ := rs.bk j _ (by omega) hjx
                  exact cl y (List.mem_of_getElem? hy') x hx ad
        refine ⟨c + 1, k', _, _, _, kvs3, rfl, rfl, by omega, hd3, ⟨fun x hx => (sd3.dom x hx).trans (hY x hx), sd3.val, sd3.len⟩, ?_, gT2.gxt (Nat.le_refl _) gx3⟩
        simp at kl3; omega
      · exact ⟨_, _, [], fs, _, _, rfl, rfl, rfl, hd2, sd0, by omega, ⟨fun _ _ _ e => e, Nat.le_refl _⟩, fun _ h => h, .inr rfl, fun _ h => .inl h, fun z hz => (nomatch hz)⟩
    · have inn : (valK kvs (.inl (c : Int))).isSome = true := (sd.dom c hc).mpr (by omega)
      simp [tsB1, tE, iD, nin_dk hd, inn]
      refine ⟨c + 1, k', _, _, _, kvs, rfl, rfl, by omega, hd, ⟨fun x hx => (sd.dom x hx).trans ?_, sd.val, sd.len⟩, by omega, gw⟩
      constructor
      · intro q; omega
      · intro q
        by_cases q2 : f x < (c : Int)
        · exact q2
        · exfalso
          obtain ⟨q0, h1, h2, h3, h4⟩ := mk_idem hf hx
          exact e (by rw [show c = q0 from by omega]; exact h3)
  · rintro ρ T ⟨c, k, o3, o4, o5, kvs, rfl, ex, ck, hd, sd, kl, gw⟩
    have k0 := rng_nil ex
    refine ⟨trivial, ?_⟩
    simp
    have cn : c = n := by omega
    subst cn
    exact tsR_ok hG.symm hy hn hf hd sd gw
  · refine ⟨0, n, none, none, none, [], rfl, rng_items, by omega, by simp, ⟨fun x hx => ?_, fun x v hx hv => by simp [valK] at hv, by simp⟩, by simp, Gw.app _⟩
    have := (hf.rg x hx).1
    simp [valK]
    omega
end
end Dv

namespace Dv
open PySem PySem.Spec PyProof.Rows L2 Df
/-! ### the facts of a web -/
noncomputable def faR6 : DenS := (sRet (dDisp (pCons (dC (.str "lots")) (dVar 2) (pCons (dC (.str "many")) (dVar 3) (pCons (dC (.str "words")) (dVar 5) (pCons (dC (.str "web")) (dVar 1) pNil))))))
noncomputable def faB2 : DenS := (sSubW putKD (dVar 5) (dC (.str "three")) (dOrV (dOp getKD (dVar 5) (dC (.str "three"))) (dAndV (dOp inD (dTup (dCons (dVar 6) (dCons (dVar 8) dNil))) (dVar 1)) (dOp inD (dTup (dCons (dVar 7) (dCons (dVar 8) dNil))) (dVar 1)))))
noncomputable def faB1 : DenS := (sFor (iRange2 (dCons (dOp addD (dVar 7) (dC (.int 1))) (dCons (dOp ixD (dVar 0) (dC (.int 0))) dNil))) (.nm 8) faB2)
noncomputable def faR5 : DenS := (sSeq (sFor (iVal (dVar 1)) (.tp [6, 7]) faB1) faR6)
noncomputable def faR4 (iS : Nat) : DenS := (sSeq (sSubW putKD (dVar 5) (dC (.str "sides")) (dCallF iS 2 (dCons (dVar 0) (dCons (dVar 1) dNil))))
    (sSeq (sSubW putKD (dVar 5) (dC (.str "three")) (dC (.bl false)))
    faR5))
noncomputable def faR3 (iS : Nat) : DenS := (sSeq (sAsg (.nm 5) (dDisp (pCons (dC (.str "joined")) (dOp eqD (dVar 4) (dC (.int 1))) (pCons (dC (.str "ring")) (dOp gtD (dCl lenD (dCons (dVar 1) dNil)) (dOp subD (dOp ixD (dVar 0) (dC (.int 0))) (dVar 4))) (pCons (dC (.str "odd")) (dOp eqD (dOp modD (dCl lenD (dCons (dVar 1) dNil)) (dC (.int 2))) (dC (.int 1))) pNil)))))
    (sSeq (sSubW putKD (dVar 5) (dC (.str "hub")) (dOp inD (dOp subD (dOp ixD (dVar 0) (dC (.int 0))) (dC (.int 1))) (dVar 3)))
    (sSeq (sSubW putKD (dVar 5) (dC (.str "lone")) (dOp inD (dC (.int 0)) (dVar 3)))
    (faR4 iS))))
noncomputable def faR2 (iS : Nat) : DenS := (sSeq (sAsg (.nm 4) (dCl lenD (dCons (dLc (iRange1 (dCons (dOp ixD (dVar 0) (dC (.int 0))) dNil)) (.nm 9) (dBl (dOp eqD (dOp ixD (dOp ixD (dVar 2) (dVar 9)) (dC (.int 0))) (dVar 9))) (dVar 9) [9]) dNil)))
    (faR3 iS))
noncomputable def faR1 (iS : Nat) : DenS := (sSeq (sAsg (.nm 3) (dLc (iRange1 (dCons (dOp ixD (dVar 0) (dC (.int 0))) dNil)) (.nm 9) tYesD (dCl lenD (dCons (dLc (iVal (dVar 1)) (.nm 10) (dBl (dOp inD (dVar 9) (dVar 10))) (dVar 10) [10]) dNil)) [9]))
    (faR2 iS))
noncomputable def faF (iR iS : Nat) : DenS := (sSeq (sAsg (.nm 2) (dLc (iRange1 (dCons (dOp ixD (dVar 0) (dC (.int 0))) dNil)) (.nm 9) tYesD (dCl sortID (dCons (dCallF iR 2 (dCons (dVar 1) (dCons (dVar 9) dNil))) dNil)) [9]))
    (faR1 iS))
def fE (n : Nat) (ts : List D) (k : Nat) (o2 o3 o4 o5 o6 o7 o8 : Option D) : Dv.Env := [some (fr n ts), some (.tup (wbK ts k)), o2, o3, o4, o5, o6, o7, o8, none, none]
/-- the list of the part about each place -/
structure Lots (T : Sto) (n : Nat) (E : Ed) (a : Nat) (rs : List Nat) : Prop where
  hs : T[a]? = some (.lst true (rs.map D.ref))
  ln : rs.length = n
  it : ∀ (i : Nat) r, rs[i]? = some r → ∃ cs : List Int, T[r]? = some (.lst true (cs.map D.int)) ∧ cs.length ≤ 8 ∧ cs.Pairwise (· ≤ ·) ∧ ∀ x, x ∈ cs ↔ Rch E (i : Int) x
theorem Lots.up {T V : Sto} {n : Nat} {E : Ed} {a : Nat} {rs : List Nat} (h : Lots T n E a rs) (g : Gw T V) : Lots V n E a rs := ⟨g.kp _ _ h.hs, h.ln, fun i r hr => by obtain ⟨cs, h1, h2⟩ := h.it i r hr; exact ⟨cs, g.kp _ _ h1, h2⟩⟩
def degL (E : Ed) (n : Nat) : List Int := (List.range n).map fun p => (deg E p : Int)
/-- the words that are so -/
def Wds (n : Nat) (ts : List D) (k : Nat) (kvs : List (L2.Key × D)) : Prop := ∀ w : Wd, valK kvs (.inr (wdS w)) = some (.bl (tr n ts (.sg w) k))
structure Fct (T : Sto) (n : Nat) (ts : List D) (k l B : Nat) : Prop where
  ex : ∃ (a b c : Nat) (rs : List Nat) (kv kvs : List (L2.Key × D)), T[l]? = some (.dk kv) ∧ valK kv (.inr "lots") = some (.ref a) ∧ valK kv (.inr "many") = some (.ref b) ∧ valK kv (.inr "words") = some (.ref c) ∧ valK kv (.inr "web") = some (.tup (wbK ts k)) ∧ Lots T n (eK ts k) a rs ∧ T[b]? = some (.lst true ((degL (eK ts k) n).map D.int)) ∧ T[c]? = some (.dk kvs) ∧ Wds n ts k kvs ∧ B ≤ l ∧ B ≤ a ∧ B ≤ b ∧ B ≤ c ∧ ∀ r ∈ rs, B ≤ r
theorem Fct.upx {T V : Sto} {n : Nat} {ts : List D} {k l B L : Nat} (h : Fct T n ts k l B) (g : GwX L T V) (hL : L < B) : Fct V n ts k l B := by
  obtain ⟨a, b, c, rs, kv, kvs, h1, h2, h3, h4, h5, h6, h7, h8, h9, b1, b2, b3, b4, b5⟩ := h.ex
  refine ⟨a, b, c, rs, kv, kvs, g.kp _ _ (by omega) h1, h2, h3, h4, h5, ⟨g.kp _ _ (by omega) h6.hs, h6.ln, fun i r hr => ?_⟩, g.kp _ _ (by omega) h7, g.kp _ _ (by omega) h8, h9, b1, b2, b3, b4, b5⟩
  obtain ⟨cs, c1, c2⟩ := h6.it i r hr
  have := b5 r (List.mem_of_getElem? hr)
  exact ⟨cs, g.kp _ _ (by omega) c1, c2⟩
theorem Fct.lo {T : Sto} {n : Nat} {ts : List D} {k l B B' : Nat} (h : Fct T n ts k l B) (hB : B' ≤ B) : Fct T n ts k l B' := by
  obtain ⟨a, b, c, rs, kv, kvs, h1, h2, h3, h4, h5, h6, h7, h8, h9, b1, b2, b3, b4, b5⟩ := h.ex
  exact ⟨a, b, c, rs, kv, kvs, h1, h2, h3, h4, h5, h6, h7, h8, h9, by omega, by omega, by omega, by omega, fun r hr => by have := b5 r hr; omega⟩
theorem Fct.up {T V : Sto} {n : Nat} {ts : List D} {k l B : Nat} (h : Fct T n ts k l B) (g : Gw T V) : Fct V n ts k l B := by
  obtain ⟨a, b, c, rs, kv, kvs, h1, h2, h3, h4, h5, h6, h7, h8, h9, h10⟩ := h.ex
  exact ⟨a, b, c, rs, kv, kvs, g.kp _ _ h1, h2, h3, h4, h5, h6.up g, g.kp _ _ h7, g.kp _ _ h8, h9, h10⟩
def faP (S : Sto) (n : Nat) (ts : List D) (k : Nat) (d : D) (T : Sto) : Prop := Gw S T ∧ ∃ l, d = .ref l ∧ S.length ≤ l ∧ Fct T n ts k l S.length
/-- as many ties as near places -/
theorem deg_len {n : Nat} {p : Int} : ∀ {ys : List D}, (∀ y ∈ ys, isTie (n : Int) y = true) → (ys.filter fun y => inT p (keyD y).1 (keyD y).2).length = (nearL (ys.map keyD) p).length
  | [], _ => rfl
  | y :: ys, h => by
    have ih := deg_len (p := p) fun z hz => h z (List.mem_cons_of_mem _ hz)
    obtain ⟨a, b, rfl, l1, l2⟩ := tie_sh (h y List.mem_cons_self)
    rw [List.map_cons]
    show (List.filter _ (D.tup [.int (a : Int), .int (b : Int)] :: ys)).length = (nearL (((a : Int), (b : Int)) :: ys.map keyD) p).length
    unfold nearL
    rw [List.length_append, List.length_append, ← ih, List.filter_cons]
    have e : inT p (keyD (D.tup [.int (a : Int), .int (b : Int)])).1 (keyD (D.tup [.int (a : Int), .int (b : Int)])).2 = inT p (a : Int) (b : Int) := rfl
    rw [e]
    by_cases c1 : (a : Int) = p
    · have c2 : ¬ ((b : Int) = p) := by omega
      have i : inT p (a : Int) (b : Int) = true := in_inT.mpr (.inl c1.symm)
      rw [if_pos c1, if_neg c2, i]
      simp
      omega
    · by_cases c2 : (b : Int) = p
      · have i : inT p (a : Int) (b : Int) = true := in_inT.mpr (.inr c2.symm)
        rw [if_neg c1, if_pos c2, i]
        simp
        omega
      · have i : inT p (a : Int) (b : Int) = false := Bool.eq_false_iff.mpr fun z => (in_inT.mp z).elim (fun e => c1 e.symm) fun e => c2 e.symm
        rw [if_neg c1, if_neg c2, i]
        simp
section
variable {bs : Bodies} {m iR iS i : Nat} {S : Sto} {n : Nat} {ts : List D} {k : Nat}
theorem zp_refs {Q : D → Nat → Prop} : ∀ {xs ys : List D}, Zp (fun x y => ∃ r, y = .ref r ∧ Q x r) xs ys → ∃ rs : List Nat, ys = rs.map D.ref ∧ rs.length = xs.length ∧ ∀ (i : Nat) x r, xs[i]? = some x → rs[i]? = some r → Q x r
  | [], ys, z => by have z : ys = [] := z; subst z; exact ⟨[], rfl, rfl, fun i x r h => by simp at h⟩
  | a :: xs, _, ⟨b, r, e, ⟨q, hq, hQ⟩, z⟩ => by
    subst e
    obtain ⟨rs, e1, e2, h⟩ := zp_refs z
    refine ⟨q :: rs, by rw [hq, e1]; rfl, by simp [e2], fun i x r hx hr => ?_⟩
    cases i with
    | zero => simp at hx hr; subst hx hr; exact hQ
    | succ i => exact h i x r (by simpa using hx) (by simpa using hr)
theorem fil_true {α : Type} {l : List α} : l.filter (fun _ => true) = l := List.filter_eq_self.mpr fun _ _ => rfl
/-- in a list of whole numbers -/
theorem in_il {S : Sto} {r : Nat} {b : Bool} {c : List Int} {p : Int} (h : S[r]? = some (.lst b (c.map D.int))) (hl : c.length ≤ 900) : inD (.int p) (.ref r) S = .ok (.bl (decide (p ∈ c))) S := in_int h hl
theorem degL_len {E : Ed} : (degL E n).length = n := by simp [degL]
theorem degL_mem {E : Ed} {z : Int} : z ∈ degL E n ↔ ∃ p, p < n ∧ (deg E p : Int) = z := by
  simp [degL]
def thX (n : Nat) (ts : List D) (k a b c : Nat) : Prop := tp a b ∈ wbK ts k ∧ b < c ∧ c < n ∧ tp a c ∈ wbK ts k ∧ tp b c ∈ wbK ts k
theorem three_iff (F : Frm n ts) : TrW n ts k .three ↔ ∃ a b c, thX n ts k a b c := by
  have tw := F.web k
  have key : ∀ x y : Int, Adj (eK ts k) x y → x < y → ∃ a b : Nat, x = (a : Int) ∧ y = (b : Int) ∧ b < n ∧ tp a b ∈ wbK ts k := fun x y h l => by
    rcases h with z | z <;> obtain ⟨t, ht, e⟩ := List.mem_map.mp z <;> obtain ⟨u, v, rfl, luv, lv⟩ := tie_sh (tw.it t ht) <;> (have e : ((u : Int), (v : Int)) = _ := e; simp only [Prod.mk.injEq] at e)
    · exact ⟨u, v, by omega, by omega, lv, ht⟩
    · omega
  have up : ∀ x y z : Int, Adj (eK ts k) x y → Adj (eK ts k) y z → Adj (eK ts k) x z → x < y → y < z → ∃ a b c, thX n ts k a b c := fun x y z h1 h2 h3 l1 l2 => by
    obtain ⟨a, b, rfl, rfl, _, m1⟩ := key x y h1 l1
    obtain ⟨b', c, e, rfl, lc, m2⟩ := key _ z h2 l2
    obtain ⟨a', c', e2, e3, _, m3⟩ := key _ _ h3 (by omega)
    have eb : b' = b := by omega
    have ea : a' = a := by omega
    have ec : c' = c := by omega
    subst eb ea ec
    exact ⟨_, _, _, m1, by omega, lc, m3, m2⟩
  constructor
  · rintro ⟨x, y, z, h1, h2, h3⟩
    have n1 := adj_ne tw h1
    have n2 := adj_ne tw h2
    have n3 := adj_ne tw h3
    rcases Int.lt_or_gt_of_ne n1 with l1 | l1 <;> rcases Int.lt_or_gt_of_ne n2 with l2 | l2 <;> rcases Int.lt_or_gt_of_ne n3 with l3 | l3
    · exact up x y z h1 h2 h3 l1 l2
    · omega
    · exact up x z y h3 h2.symm h1 l3 l2
    · exact up z x y h3.symm h1 h2.symm l3 l1
    · exact up y x z h1.symm h3 h2 l1 l3
    · exact up y z x h2 h3.symm h1.symm l2 l3
    · omega
    · exact up z y x h2.symm h1.symm h3.symm l2 l1
  · rintro ⟨a, b, c, m1, _, _, m2, m3⟩
    exact ⟨a, b, c, .inl (List.mem_map.mpr ⟨_, m1, rfl⟩), .inl (List.mem_map.mpr ⟨_, m3, rfl⟩), .inl (List.mem_map.mpr ⟨_, m2, rfl⟩)⟩
/-- the words but three -/
def WdsX (n : Nat) (ts : List D) (k : Nat) (kvs : List (L2.Key × D)) (b : Bool) : Prop := (∀ w : Wd, w ≠ .three → valK kvs (.inr (wdS w)) = some (.bl (tr n ts (.sg w) k))) ∧ valK kvs (.inr "three") = some (.bl b)
theorem WdsX.put {kvs : List (L2.Key × D)} {b b' : Bool} (h : WdsX n ts k kvs b) : WdsX n ts k (setK kvs (.inr "three") (.bl b')) b' := by
  refine ⟨fun w hw => ?_, by rw [val_set, if_pos rfl]⟩
  rw [val_set, if_neg, h.1 w hw]
  intro e
  have e := Sum.inr.inj e
  cases w <;> simp [wdS] at e hw
def faJ1 (S : Sto) (n : Nat) (ts : List D) (k c : Nat) (o2 o3 o4 : Option D) (xs : List D) (ρ : Dv.Env) (T : Sto) : Prop := ∃ (o6 o7 o8 : Option D) (dn : List D) (kvs : List (L2.Key × D)) (b : Bool), ρ = fE n ts k o2 o3 o4 (some (.ref c)) o6 o7 o8 ∧ wbK ts k = dn ++ xs ∧ T[c]? = some (.dk kvs) ∧ WdsX n ts k kvs b ∧ kvs.length + 10 * xs.length ≤ 200 ∧ GwX c S T ∧ (b = true ↔ ∃ a b c, tp a b ∈ dn ∧ thX n ts k a b c)
def faJ2 (S : Sto) (n : Nat) (ts : List D) (k c N : Nat) (o2 o3 o4 : Option D) (u v : Nat) (b0 : Bool) (xs : List D) (ρ : Dv.Env) (T : Sto) : Prop := ∃ (o8 : Option D) (z q : Nat) (kvs : List (L2.Key × D)) (b : Bool), ρ = fE n ts k o2 o3 o4 (some (.ref c)) (some (.int (u : Int))) (some (.int (v : Int))) o8 ∧ xs = (List.range' z q).map iD ∧ z + q = n ∧ v < z ∧ T[c]? = some (.dk kvs) ∧ WdsX n ts k kvs b ∧ kvs.length + xs.length ≤ N ∧ GwX c S T ∧ (b = true ↔ b0 = true ∨ ∃ x, v < x ∧ x < z ∧ tp u x ∈ wbK ts k ∧ tp v x ∈ wbK ts k)
theorem rng_lo {lo : Nat} {q : Nat} : (Src.rng (lo : Int) q).items = (List.range' lo q).map iD := by
  unfold Src.items
  rw [List.range'_eq_map_range, List.map_map]
  refine List.map_congr_left fun x _ => ?_
  simp [iD]
theorem faR5_ok {F : DenS} (hF : F = faR5) (Fm : Frm n ts) {a b c : Nat} {rs : List Nat} {kvs : List (L2.Key × D)} {o4 : Option D} {T : Sto} (lo : Lots T n (eK ts k) a rs) (hb : T[b]? = some (.lst true ((degL (eK ts k) n).map D.int))) (hc : T[c]? = some (.dk kvs)) (wd : WdsX n ts k kvs false) (kl : kvs.length ≤ 20) (sa : S.length ≤ a) (sb : S.length ≤ b) (sr : ∀ r ∈ rs, S.length ≤ r) (sc : S.length ≤ c) (gw : Gw S T) :
    (F (Phi bs m) (fE n ts k (some (.ref a)) (some (.ref b)) o4 (some (.ref c)) none none none) T).wp (FlR (faP S n ts k) noX) noX := by
  subst hF
  have tw := Fm.web k
  have ab : AllB (wbK ts k) := inn_b tw.inn Fm.n8
  have l7 := tw.ln
  have n8 := Fm.n8
  have ac : a ≠ c := by intro e; have := lo.hs; rw [e, hc] at this; cases this
  have bc : b ≠ c := by intro e; rw [e, hc] at hb; cases hb
  unfold faR5
  generalize hG : faR6 = G
  simp [fE]
  refine for_inv (faJ1 T n ts k c (some (.ref a)) (some (.ref b)) o4) ?_ ?_ _ _ _ ?_
  · rintro x xs ρ T2 ⟨o6, o7, o8, dn, kvs2, b2, rfl, ew, hc2, wd2, kl2, gx2, mean⟩
    have hx : x ∈ wbK ts k := by rw [ew]; simp
    obtain ⟨u, v, rfl, luv, lv⟩ := tie_sh (tw.it x hx)
    rw [List.length_cons] at kl2
    have hlx : xs.length ≤ 7 := by have := congrArg List.length ew; simp at this; omega
    refine ⟨trivial, _, tg_tp2, ?_⟩
    simp [faB1, fE, fr]
    refine ⟨by omega, ?_⟩
    rw [show ((v : Int) + 1) = ((v + 1 : Nat) : Int) from by omega, rng_lo]
    refine for_inv (faJ2 T n ts k c (kvs2.length + 8) (some (.ref a)) (some (.ref b)) o4 u v b2) ?_ ?_ _ _ _ ?_
    · rintro y ys ρ T3 ⟨o8, z, q, kvs3, b3, rfl, ex, zq, vz, hc3, wd3, kl3, gx3, mean3⟩
      obtain ⟨q, rfl, rfl, rfl⟩ := rng_cons ex
      have zn : z < n := by omega
      refine ⟨trivial, _, rfl, ?_⟩
      have lt3 := (List.getElem?_eq_some_iff.mp hc3).1
      rw [List.length_cons] at kl3
      have b1 : BP (tp u z) := ⟨u, z, rfl, by omega, by omega, by omega, by omega⟩
      have b2' : BP (tp v z) := ⟨v, z, rfl, by omega, by omega, by omega, by omega⟩
      have i1 := in_pr (S := T3) b1 ab (by omega)
      have i2 := in_pr (S := T3) b2' ab (by omega)
      have fin : ∀ b4 : Bool, (b4 = true ↔ b3 = true ∨ (tp u z ∈ wbK ts k ∧ tp v z ∈ wbK ts k)) → faJ2 T n ts k c (kvs2.length + 8) (some (.ref a)) (some (.ref b)) o4 u v b2 ((List.range' (z + 1) q).map iD) (fE n ts k (some (.ref a)) (some (.ref b)) o4 (some (.ref c)) (some (.int (u : Int))) (some (.int (v : Int))) (some (iD z))) (T3.set c (.dk (setK kvs3 (.inr "three") (.bl b4)))) := fun b4 h4 => by
        refine ⟨_, z + 1, q, _, b4, rfl, rfl, by omega, by omega, List.getElem?_set_self lt3, wd3.put, ?_, gx3.trans gx_set, ?_⟩
        · have := set_len (kvs := kvs3) (k := .inr "three") (v := .bl b4)
          -- the key is there already
          have e : (setK kvs3 (.inr "three") (.bl b4)).length = kvs3.length := by
            unfold setK
            rw [val_any, wd3.2]
            simp
          omega
        · rw [h4, mean3]
          constructor
          · rintro ((h | ⟨x, h1, h2, h3⟩) | h)
            · exact .inl h
            · exact .inr ⟨x, h1, by omega, h3⟩
            · exact .inr ⟨z, vz, by omega, h⟩
          · rintro (h | ⟨x, h1, h2, h3⟩)
            · exact .inl (.inl h)
            · by_cases xz : x = z
              · subst xz; exact .inr h3
              · exact .inl (.inr ⟨x, h1, by omega, h3⟩)
      have iw1 : inW (tp u z) (wbK ts k) = true ↔ tp u z ∈ wbK ts k := inW_iff rfl ab.pr
      have iw2 : inW (tp v z) (wbK ts k) = true ↔ tp v z ∈ wbK ts k := inW_iff rfl ab.pr
      unfold tp at i1 i2
      cases hb3 : b3 with
      | true =>
        subst hb3
        simp [faB2, fE, iD, hc3, wd3.2]
        exact ⟨by omega, fin true (by simp)⟩
      | false =>
        subst hb3
        cases h1 : inW (tp u z) (wbK ts k) with
        | false =>
          have h1' := h1
          unfold tp at h1'
          simp [faB2, fE, iD, hc3, wd3.2, i1, h1']
          refine ⟨by omega, fin false ?_⟩
          rw [← iw1, h1]; simp
        | true =>
          have h1' := h1
          unfold tp at h1'
          simp [faB2, fE, iD, hc3, wd3.2, i1, i2, h1']
          refine ⟨by omega, fin (inW (tp v z) (wbK ts k)) ?_⟩
          rw [← iw1, h1, iw2]; simp
    · rintro ρ T3 ⟨o8, z, q, kvs3, b3, rfl, ex, zq, vz, hc3, wd3, kl3, gx3, mean3⟩
      have q0 := rng_nil ex
      subst q0
      refine ⟨trivial, ?_⟩
      simp
      refine ⟨_, _, _, dn ++ [tp u v], kvs3, b3, rfl, by rw [ew]; simp [tp], hc3, wd3, ?_, gx3, ?_⟩
      · simp at kl3; omega
      · rw [mean3, mean]
        constructor
        · rintro (⟨a', b', c', h1, h2⟩ | ⟨x, h1, h2, h3, h4⟩)
          · exact ⟨a', b', c', List.mem_append_left _ h1, h2⟩
          · exact ⟨u, v, x, by simp, hx, h1, by omega, h3, h4⟩
        · rintro ⟨a', b', c', h1, h2⟩
          rcases List.mem_append.mp h1 with w | w
          · exact .inl ⟨a', b', c', w, h2⟩
          · have e := List.mem_singleton.mp w
            unfold tp at e
            simp only [D.tup.injEq, List.cons.injEq, D.int.injEq, and_true] at e
            obtain ⟨m1, m2, m3, m4, m5⟩ := h2
            have ea : a' = u := by omega
            have eb : b' = v := by omega
            subst ea eb
            exact .inr ⟨c', m2, by omega, m4, m5⟩
    · refine ⟨_, v + 1, n - (v + 1), kvs2, b2, rfl, by congr 2; omega, by omega, by omega, hc2, wd2, ?_, gx2, ?_⟩
      · simp; omega
      · constructor
        · exact .inl
        · rintro (h | ⟨x, h1, h2, _⟩)
          · exact h
          · omega
  · rintro ρ T2 ⟨o6, o7, o8, dn, kvs2, b2, rfl, ew, hc2, wd2, kl2, gx2, mean⟩
    rw [List.append_nil] at ew
    refine ⟨trivial, ?_⟩
    have ge : ∀ (j : Nat) o, j ≠ c → T[j]? = some o → T2[j]? = some o := gx2.kp
    have g2 : Gw S T2 := gw.gxt sc gx2
    have lo2 : Lots T2 n (eK ts k) a rs := ⟨ge _ _ ac lo.hs, lo.ln, fun i r hr => by
      obtain ⟨cs, h1, h2⟩ := lo.it i r hr
      refine ⟨cs, ge _ _ (fun e => ?_) h1, h2⟩
      rw [e, hc] at h1; cases h1⟩
    have hb2 := ge _ _ bc hb
    have wds : Wds n ts k kvs2 := fun w => by
      by_cases e : w = .three
      · subst e
        show valK kvs2 (.inr "three") = _
        rw [wd2.2]
        congr 2
        refine tr_of ?_
        rw [mean]
        show _ ↔ TrW n ts k .three
        rw [three_iff Fm]
        constructor
        · rintro ⟨a, b, c, _, h⟩; exact ⟨a, b, c, h⟩
        · rintro ⟨a, b, c, h⟩; exact ⟨a, b, c, by rw [← ew]; exact h.1, h⟩
      · exact wd2.1 w e
    subst hG
    simp [faR6, fE]
    have up : Gw T2 (T2 ++ [O.dk (mergeD [] [(.inr "lots", .ref a), (.inr "many", .ref b), (.inr "words", .ref c), (.inr "web", .tup (wbK ts k))])]) := Gw.app _
    refine ⟨g2.trans up, _, rfl, g2.ln, ⟨a, b, c, rs, _, kvs2, at_a0, ?_⟩⟩
    refine ⟨?_, ?_, ?_, ?_, lo2.up up, up.kp _ _ hb2, up.kp _ _ hc2, wds, g2.ln, sa, sb, sc, sr⟩ <;> simp [mergeD, val_set]
  · exact ⟨_, _, _, [], kvs, false, rfl, rfl, hc, wd, by show kvs.length + 10 * (wbK ts k).length ≤ 200; omega, ⟨fun _ _ _ e => e, Nat.le_refl _⟩, ⟨fun h => (by cases h), fun ⟨_, _, _, h, _⟩ => (nomatch h)⟩⟩
end
end Dv

namespace Dv
open PySem PySem.Spec PyProof.Rows L2 Df
section
variable {bs : Bodies} {m iR iS i : Nat} {S : Sto} {n : Nat} {ts : List D} {k : Nat}
theorem faR4_ok {F : DenS} (hF : F = faR4 iS) (hR : bs[iR]? = some (reF, 5)) (hS : bs[iS]? = some (tsF iR, 6)) (hm : 4 ≤ m) (Fm : Frm n ts) {a b c : Nat} {rs : List Nat} {kvs : List (L2.Key × D)} {o4 : Option D} {T : Sto} (lo : Lots T n (eK ts k) a rs) (hb : T[b]? = some (.lst true ((degL (eK ts k) n).map D.int))) (hc : T[c]? = some (.dk kvs))
    (wd : ∀ w : Wd, w ≠ .three → w ≠ .sides → valK kvs (.inr (wdS w)) = some (.bl (tr n ts (.sg w) k))) (kl : kvs.length ≤ 10) (sa : S.length ≤ a) (sb : S.length ≤ b) (sr : ∀ r ∈ rs, S.length ≤ r) (sc : S.length ≤ c) (gw : Gw S T) :
    (F (Phi bs m) (fE n ts k (some (.ref a)) (some (.ref b)) o4 (some (.ref c)) none none none) T).wp (FlR (faP S n ts k) noX) noX := by
  subst hF
  have tw := Fm.web k
  unfold faR4
  generalize hG : faR5 = G
  simp [fE, fr]
  refine R.to (two_ok hR hS hm tw Fm.n8) ?_
  rintro d T1 ⟨g1, bo, rfl, hbo⟩
  have hc1 := g1.kp _ _ hc
  have lt1 := (List.getElem?_eq_some_iff.mp hc1).1
  have s1 : ∀ o, (T1.set c o)[c]? = some o := fun o => List.getElem?_set_self lt1
  have sl := set_len (kvs := kvs) (k := .inr "sides") (v := .bl bo)
  have sl2 := set_len (kvs := setK kvs (.inr "sides") (.bl bo)) (k := .inr "three") (v := .bl false)
  have ac : a ≠ c := by intro e; have := lo.hs; rw [e, hc] at this; cases this
  have bc : b ≠ c := by intro e; rw [e, hc] at hb; cases hb
  simp [hc1, s1]
  refine ⟨by omega, by omega, ?_⟩
  have gx : GwX c T (T1.set c (.dk (setK (setK kvs (.inr "sides") (.bl bo)) (.inr "three") (.bl false)))) := (g1.gx).trans gx_set
  refine faR5_ok hG.symm Fm (rs := rs) ⟨gx.kp _ _ ac lo.hs, lo.ln, fun i r hr => ?_⟩ (gx.kp _ _ bc hb) (List.getElem?_set_self lt1) ⟨fun w hw => ?_, by rw [val_set, if_pos rfl]⟩ (by omega) sa sb sr sc (gw.gxt sc gx)
  · obtain ⟨cs, h1, h2⟩ := lo.it i r hr
    refine ⟨cs, gx.kp _ _ (fun e => ?_) h1, h2⟩
    rw [e, hc] at h1; cases h1
  · rw [val_set, if_neg, val_set]
    · by_cases ws : w = .sides
      · subst ws
        rw [show wdS .sides = Str.ofString "sides" from rfl, if_pos rfl]
        congr 2
        exact tr_of hbo
      · rw [if_neg, wd w hw ws]
        intro e
        have e := Sum.inr.inj e
        cases w <;> simp [wdS] at e ws
    · intro e
      have e := Sum.inr.inj e
      cases w <;> simp [wdS] at e hw
theorem faR3_ok {F : DenS} (hF : F = faR3 iS) (hR : bs[iR]? = some (reF, 5)) (hS : bs[iS]? = some (tsF iR, 6)) (hm : 4 ≤ m) (Fm : Frm n ts) {f : Nat → Int} (hf : Mk (eK ts k) n f) {a b : Nat} {rs : List Nat} {T : Sto} (lo : Lots T n (eK ts k) a rs) (hb : T[b]? = some (.lst true ((degL (eK ts k) n).map D.int))) (sa : S.length ≤ a) (sb : S.length ≤ b) (sr : ∀ r ∈ rs, S.length ≤ r) (gw : Gw S T) :
    (F (Phi bs m) (fE n ts k (some (.ref a)) (some (.ref b)) (some (.int (Df.cnt f n : Int))) none none none none) T).wp (FlR (faP S n ts k) noX) noX := by
  subst hF
  have tw := Fm.web k
  have n8 := Fm.n8
  have n1 := Fm.n1
  have ci := cyc_iff (ine tw.inn) hf
  rw [List.length_map] at ci
  have ltb := (List.getElem?_eq_some_iff.mp hb).1
  unfold faR3
  generalize hG : faR4 iS = G
  have hb' : ∀ W : Sto, (T ++ W)[b]? = some (.lst true ((degL (eK ts k) n).map D.int)) := fun W => by rw [List.getElem?_append_left ltb]; exact hb
  have ll : (degL (eK ts k) n).length ≤ 900 := by rw [degL_len]; omega
  have i1 : ∀ (W : Sto) (z : Int), inD (.int z) (.ref b) (T ++ W) = .ok (.bl (decide (z ∈ degL (eK ts k) n))) (T ++ W) := fun W z => in_il (hb' W) ll
  obtain ⟨kv0, hkv0⟩ : ∃ kv0, mergeD [] [((.inr "joined" : L2.Key), D.bl (decide (((Df.cnt f n : Nat) : Int) = 1))), (.inr "ring", .bl (decide ((n : Int) - (Df.cnt f n : Int) < ((wbK ts k).length : Int)))), (.inr "odd", .bl (decide (((wbK ts k).length : Int) % 2 = 1)))] = kv0 := ⟨_, rfl⟩
  have l0 : kv0.length ≤ 3 := by
    rw [← hkv0]
    unfold mergeD
    simp only [List.foldl]
    have a1 := set_len (kvs := []) (k := .inr "joined") (v := D.bl (decide (((Df.cnt f n : Nat) : Int) = 1)))
    have a2 := set_len (kvs := setK [] (.inr "joined") (D.bl (decide (((Df.cnt f n : Nat) : Int) = 1)))) (k := .inr "ring") (v := .bl (decide ((n : Int) - (Df.cnt f n : Int) < ((wbK ts k).length : Int))))
    have a3 := set_len (kvs := setK (setK [] (.inr "joined") (D.bl (decide (((Df.cnt f n : Nat) : Int) = 1)))) (.inr "ring") (.bl (decide ((n : Int) - (Df.cnt f n : Int) < ((wbK ts k).length : Int))))) (k := .inr "odd") (v := .bl (decide (((wbK ts k).length : Int) % 2 = 1)))
    simp only [List.length_nil] at a1
    omega
  have sl1 := set_len (kvs := kv0) (k := .inr "hub") (v := .bl (decide ((n : Int) - 1 ∈ degL (eK ts k) n)))
  have sl2 := set_len (kvs := setK kv0 (.inr "hub") (.bl (decide ((n : Int) - 1 ∈ degL (eK ts k) n)))) (k := .inr "lone") (v := .bl (decide ((0 : Int) ∈ degL (eK ts k) n)))
  simp [fE, fr]
  rw [hkv0]
  simp [i1]
  refine ⟨by omega, by omega, ?_⟩
  refine faR4_ok hG.symm hR hS hm Fm (rs := rs) (lo.up (Gw.app _)) (hb' _) at_a0 (fun w h3 hs => ?_) (by omega) sa sb sr gw.ln (gw.trans (Gw.app _))
  rw [val_set, val_set, ← hkv0]
  cases w with
  | three => exact absurd rfl h3
  | sides => exact absurd rfl hs
  | odd =>
    simp [wdS, mergeD, val_set]
    exact tr_of (by simp [Tr, TrW]; omega)
  | joined =>
    simp [wdS, mergeD, val_set]
    refine tr_of ?_
    rw [decide_eq_true_eq]
    constructor
    · intro e; exact ⟨f, hf, by omega⟩
    · rintro ⟨g, hg, e⟩; rw [hf.cnt hg]; omega
  | ring =>
    simp [wdS, mergeD, val_set]
    refine tr_of ?_
    rw [decide_eq_true_eq]
    show _ ↔ Cyc (eK ts k)
    unfold eK
    rw [ci.2]
    omega
  | hub =>
    simp [wdS, mergeD, val_set]
    refine tr_of ?_
    rw [decide_eq_true_eq, degL_mem]
    constructor
    · rintro ⟨p, hp, e⟩; exact ⟨p, hp, by omega⟩
    · rintro ⟨p, hp, e⟩; exact ⟨p, hp, by omega⟩
  | lone =>
    simp [wdS, mergeD, val_set]
    refine tr_of ?_
    rw [decide_eq_true_eq, degL_mem]
    constructor
    · rintro ⟨p, hp, e⟩; exact ⟨p, hp, by omega⟩
    · rintro ⟨p, hp, e⟩; exact ⟨p, hp, by omega⟩
/-- the first of a part is its mark -/
theorem lot_fst {E : Ed} {f : Nat → Int} (hf : Mk E n f) {cs : List Int} {p : Nat} (hp : p < n) (hs : cs.Pairwise (· ≤ ·)) (hm : ∀ x, x ∈ cs ↔ Rch E (p : Int) x) (h0 : ∀ x, Rch E (p : Int) x → 0 ≤ x) : ∃ r, cs = f p :: r := by
  have h1 : f p ∈ cs := (hm _).mpr (hf.rc p hp)
  cases cs with
  | nil => cases h1
  | cons z r =>
    have hz := (hm z).mp List.mem_cons_self
    have zl : z ≤ f p := by
      rcases List.mem_cons.mp h1 with e | e
      · omega
      · exact (List.pairwise_cons.mp hs).1 _ e
    obtain ⟨b1, b2⟩ := hf.rg p hp
    refine ⟨r, ?_⟩
    -- z is a place, as it is reached
    by_cases e : z = f p
    · rw [e]
    · exfalso
      have z0 : 0 ≤ z := h0 z hz
      have := hf.lo p z.toNat hp (by omega) (by rw [Int.toNat_of_nonneg z0]; exact hz)
      omega
theorem rch_0 (F : Frm n ts) {p : Nat} {x : Int} (h : Rch (eK ts k) (p : Int) x) : 0 ≤ x := by
  cases h with
  | refl => omega
  | step _ a => exact (adj_in (F.web k).inn a).1
theorem faR2_ok {F : DenS} (hF : F = faR2 iS) (hR : bs[iR]? = some (reF, 5)) (hS : bs[iS]? = some (tsF iR, 6)) (hm : 4 ≤ m) (Fm : Frm n ts) {a b : Nat} {rs : List Nat} {T : Sto} (lo : Lots T n (eK ts k) a rs) (hb : T[b]? = some (.lst true ((degL (eK ts k) n).map D.int))) (sa : S.length ≤ a) (sb : S.length ≤ b) (sr : ∀ r ∈ rs, S.length ≤ r) (gw : Gw S T) :
    (F (Phi bs m) (fE n ts k (some (.ref a)) (some (.ref b)) none none none none none) T).wp (FlR (faP S n ts k) noX) noX := by
  have tw := Fm.web k
  have n8 := Fm.n8
  have hff := mk_ex tw.inn
  obtain ⟨f, hf⟩ : ∃ f, Mk (eK ts k) n f := hff
  subst hF
  unfold faR2
  generalize hG : faR3 iS = G
  simp [fE, fr, wipeE]
  refine ⟨by omega, ?_⟩
  rw [lc_pure (p := fun d => match d with | .int z => decide (f z.toNat = z) | _ => false) (g := id) (fun acc => trivial) (fun w hw => ?_) (by rw [rng_len]; simp; omega)]
  · simp
    have e : ((Src.rng 0 n).items.filter fun d => match d with | .int z => decide (f z.toNat = z) | _ => false).length = Df.cnt f n := by
      unfold Df.cnt Src.items
      rw [List.filter_map, List.length_map]
      congr 1
      refine List.filter_congr fun x _ => ?_
      simp
    rw [e]
    exact faR3_ok hG.symm hR hS hm Fm hf (lo.up (Gw.app _)) ((Gw.app _).kp _ _ hb) sa sb sr (gw.trans (Gw.app _))
  · obtain ⟨p, hp, rfl⟩ := rng_mem hw
    have hl : p < rs.length := by rw [lo.ln]; exact hp
    obtain ⟨cs, h1, h2, h3, h4⟩ := lo.it p rs[p] (List.getElem?_eq_getElem hl)
    obtain ⟨r, hr⟩ := lot_fst hf hp h3 h4 fun x hx => rch_0 Fm hx
    have kx : ∀ (W : Sto) {j : Nat} {o : O}, T[j]? = some o → (T ++ W)[j]? = some o := fun W {j o} e => (Gw.app W).kp _ _ e
    have a1 : L2.atI (rs.map D.ref) (p : Int) = some (.ref rs[p]) := L2.atI_nat (by simp [hl])
    have a2 : L2.atI (cs.map D.int) 0 = some (.int (f p)) := by rw [hr]; exact L2.atI_nat (j := 0) rfl
    refine ⟨_, rfl, fun acc => ⟨R.eq_of ?_, fun _ => R.eq_of (by simp)⟩⟩
    simp [kx _ lo.hs, a1, kx _ h1, a2]
def lotQ (L : Nat) (E : Ed) (T : Sto) (x : D) (r : Nat) : Prop := ∃ (p : Nat) (cs : List Int), x = .int (p : Int) ∧ L < r ∧ T[r]? = some (.lst true (cs.map D.int)) ∧ cs.length ≤ 8 ∧ cs.Pairwise (· ≤ ·) ∧ ∀ x, x ∈ cs ↔ Rch E (p : Int) x
def lotP (L : Nat) (E : Ed) (x y : D) (T : Sto) : Prop := ∃ r, y = .ref r ∧ lotQ L E T x r
def degP (E : Ed) (x y : D) (_ : Sto) : Prop := y = match x with | .int z => .int ((deg E z.toNat : Nat) : Int) | d => d
theorem facts_ok (hR : bs[iR]? = some (reF, 5)) (hS : bs[iS]? = some (tsF iR, 6)) (hI : bs[i]? = some (faF iR iS, 11)) (hm : 5 ≤ m) (Fm : Frm n ts) : (Phi bs m 0 i [fr n ts, .tup (wbK ts k)] S).wp (faP S n ts k) noX := by
  refine wpP (by omega) hI ?_
  have tw := Fm.web k
  have n8 := Fm.n8
  have l7 := tw.ln
  unfold faF
  generalize hG : faR1 iS = G
  simp [fr, wipeE]
  refine ⟨by omega, ?_⟩
  refine R.to (lc_gw (S0 := S) (p := fun _ => true) (P := lotP S.length (eK ts k)) (fun _ _ => trivial) ?_ (by rw [rng_len]; simp; omega) fun w hw => ?_) ?_
  · rintro x y T T' ⟨r, e, p, cs, h1, h2, h3, h4⟩ g
    exact ⟨r, e, p, cs, h1, h2, g.kp _ _ (by omega) h3, h4⟩
  · obtain ⟨p, hp, rfl⟩ := rng_mem hw
    refine ⟨_, rfl, fun T g lt => ⟨rfl, fun _ => ?_⟩⟩
    simp
    refine R.to (reached_ok hR (by omega) tw n8 ⟨by omega, by omega⟩) ?_
    rintro d T2 ⟨l, fs, rfl, ll, hl, g2, rs, mem⟩
    have ln := rs.len
    simp [sortI_r hl (by simp; omega)]
    refine ⟨g2.trans (Gw.app _), _, rfl, p, srtI fs, rfl, ?_, at_a0, ?_, srtI_le, fun x => ?_⟩
    · have := g2.ln; omega
    · rw [srtI_perm.length_eq]; omega
    · rw [srtI_perm.mem_iff]; exact mem x
  · rintro d T ⟨rfl, g, ys, hL, z⟩
    rw [fil_true] at z
    obtain ⟨rs, rfl, l2, hz⟩ := zp_refs z
    rw [rng_len] at l2
    have sr : ∀ r ∈ rs, S.length ≤ r := fun r hr => by
      obtain ⟨i, hi, e⟩ := List.mem_iff_getElem.mp hr
      have hi2 : i < n := by omega
      have ei : (Src.rng 0 n).items[i]? = some (.int (i : Int)) := by unfold Src.items; simp [hi2]
      obtain ⟨p, cs, h1, h2, h3, h4⟩ := hz i (.int (i : Int)) r ei (by rw [List.getElem?_eq_getElem hi, e])
      omega
    have lo : Lots T n (eK ts k) S.length rs := ⟨hL, l2, fun i r hr => by
      have hi : i < n := by rw [← l2]; exact (List.getElem?_eq_some_iff.mp hr).1
      obtain ⟨p, cs, h1, h2, h3, h4⟩ := hz i (.int (i : Int)) r (by unfold Src.items; simp [hi]) hr
      have e : i = p := by cases h1; omega
      subst e
      exact ⟨cs, h3, h4⟩⟩
    simp
    subst hG
    unfold faR1
    generalize hG : faR2 iS = G
    simp [wipeE]
    refine ⟨by omega, ?_⟩
    refine R.to (lc_gw (S0 := T) (p := fun _ => true) (P := degP (eK ts k)) (fun _ _ => trivial) (fun x y T T' h _ => h) (by rw [rng_len]; simp; omega) fun w hw => ?_) ?_
    · obtain ⟨p, hp, rfl⟩ := rng_mem hw
      refine ⟨_, rfl, fun T2 g2 lt => ⟨rfl, fun _ => ?_⟩⟩
      simp
      rw [lc_pure (p := fun y => inT (p : Int) (keyD y).1 (keyD y).2) (g := id) (fun acc => trivial) (fun w hw => ?_) (by simp; omega)]
      · simp
        refine ⟨Gw.app _, ?_⟩
        unfold degP
        simp only
        congr 1
        rw [deg_len tw.it]
        simp [deg, eK]
      · obtain ⟨a, b, rfl, l1, l2⟩ := tie_sh (tw.it w hw)
        refine ⟨_, rfl, fun acc => ⟨R.eq_of ?_, fun _ => R.eq_of (by simp [wipeE])⟩⟩
        simp [wipeE, in_t2]
        rfl
    · rintro d T2 ⟨rfl, g2, ys, hL2, z2⟩
      rw [fil_true] at z2
      have e : ys = (degL (eK ts k) n).map D.int := by
        rw [z2.map (g := fun x => match x with | .int z => .int ((deg (eK ts k) z.toNat : Nat) : Int) | d => d) fun x y _ h => h]
        unfold Src.items degL
        rw [List.map_map, List.map_map]
        refine List.map_congr_left fun x _ => ?_
        simp
      rw [e] at hL2
      simp
      exact faR2_ok hG.symm hR hS (by omega) Fm (lo.up g2) hL2 (Nat.le_refl _) g.ln sr (g.trans g2)
end
end Dv

namespace Dv
open PySem PySem.Spec PyProof.Rows L2 Df
noncomputable def plF : DenS := (sSeq (sAsg (.nm 2) (dOp ixA (dVar 1) (dC (.int 0))))
    (sSeq (sIf (dBl (dOp eqD (dVar 2) (dC (.str "tie")))) (sRet (dOp inD (dSl (dVar 1) (some (dC (.int 1))) none) (dOp getKD (dVar 0) (dC (.str "web"))))) sNil)
    (sSeq (sIf (dBl (dOp eqD (dVar 2) (dC (.str "way")))) (sRet (dOp inD (dOp ixA (dVar 1) (dC (.int 2))) (dOp ixA (dOp getKD (dVar 0) (dC (.str "lots"))) (dOp ixA (dVar 1) (dC (.int 1)))))) sNil)
    (sSeq (sIf (dBl (dOp eqD (dVar 2) (dC (.str "many")))) (sRet (dOp geD (dCl lenD (dCons (dOp getKD (dVar 0) (dC (.str "web"))) dNil)) (dOp ixA (dVar 1) (dC (.int 1))))) sNil)
    (sSeq (sIf (dBl (dOp eqD (dVar 2) (dC (.str "ends")))) (sRet (dOp geD (dOp ixA (dOp getKD (dVar 0) (dC (.str "many"))) (dOp ixA (dVar 1) (dC (.int 1)))) (dOp ixA (dVar 1) (dC (.int 2))))) sNil)
    (sRet (dOp ixA (dOp getKD (dVar 0) (dC (.str "words"))) (dVar 2))))))))
theorem ixA_s {T : Sto} {c : Nat} {kvs : List (L2.Key × D)} {x : Str} (h : T[c]? = some (.dk kvs)) : ixA (.ref c) (.str x) T = optR (valK kvs (.inr x)) T := by
  unfold ixA
  rw [dk_is h]
  simp [h]
theorem cut_1 {x a b : D} : cutD [x, a, b] (some 1) none = [a, b] := by simp [cutD, HT.sIx]
/-- not told, and without wishes in it -/
def W.pl0 : W → Bool
  | .told _ => false
  | w => w.pl
section
variable {bs : Bodies} {m i : Nat} {S : Sto} {n : Nat} {ts : List D} {k : Nat}
theorem plain_eq (hI : bs[i]? = some (plF, 3)) (hm : 2 ≤ m) (Fm : Frm n ts) {l B : Nat} (fc : Fct S n ts k l B) {w : W} (hw : w.ok n ts) (hp : w.pl0 = true) : Phi bs m 0 i [.ref l, wD w] S = .ok (.bl (tr n ts w k)) S := by
  obtain ⟨a, b, c, rs, kv, kvs, h1, h2, h3, h4, h5, h6, h7, h8, h9, _⟩ := fc.ex
  have tw := Fm.web k
  have ab : AllB (wbK ts k) := inn_b tw.inn Fm.n8
  have l7 := tw.ln
  have n8 := Fm.n8
  refine R.eq_of (wpP hm hI ?_)
  cases w with
  | neg w => cases hp
  | mis w => cases hp
  | both a b => cases hp
  | either a b => cases hp
  | one a b => cases hp
  | told bo => cases hp
  | sg w =>
    have e := ixA_s (x := wdS w) h8
    rw [h9 w] at e
    cases w <;> (simp only [wdS] at e; simp [plF, wD, wdS, h1, h4, e])
  | many j =>
    simp [plF, wD, h1, h5]
    exact tr_of (by simp [Tr])
  | ends p j =>
    obtain ⟨hp, _⟩ : p < n ∧ j ≤ 99 := hw
    have e : ixA (.ref b) (.int (p : Int)) S = .ok (.int (deg (eK ts k) p : Int)) S := ixA_l h7 (L2.atI_nat (by simp [degL, hp]))
    simp [plF, wD, h1, h3, e]
    exact tr_of (by simp [Tr])
  | tie x y =>
    have ht : tp x y ∈ ts := hw
    have bp := Fm.b _ ht
    have e := in_pr (S := S) bp ab (by omega)
    unfold tp at e
    simp [plF, wD, h1, h5, cut_1, e]
    exact tr_of (inW_iff (t := tp x y) rfl ab.pr)
  | way x y =>
    obtain ⟨lxy, ly⟩ : x < y ∧ y < n := hw
    have hl : x < rs.length := by rw [h6.ln]; omega
    obtain ⟨cs, c1, c2, c3, c4⟩ := h6.it x rs[x] (List.getElem?_eq_getElem hl)
    have e : ixA (.ref a) (.int (x : Int)) S = .ok (.ref rs[x]) S := ixA_l h6.hs (L2.atI_nat (by simp [hl]))
    simp [plF, wD, h1, h2, e, in_il (p := (y : Int)) c1 (by omega)]
    refine tr_of ?_
    rw [decide_eq_true_eq]
    exact c4 _
end
/-! ### all webs, by the law -/
noncomputable def lwB : DenS := (sExpr (dMt appendD (dVar 2) (dCons (dCl tupleD (dCons (dLc (iRange1 (dCons (dCl lenD (dCons (dVar 1) dNil)) dNil)) (.nm 4) (dBl (dOp eqD (dOp andD (dOp shrD (dVar 3) (dVar 4)) (dC (.int 1))) (dC (.int 1)))) (dOp ixD (dVar 1) (dVar 4)) [4]) dNil)) dNil)))
noncomputable def lwF : DenS := (sSeq (sAsg (.nm 1) (dOp ixD (dVar 0) (dC (.int 1))))
    (sSeq (sAsg (.nm 2) (dLst dNil))
    (sSeq (sFor (iRange1 (dCons (dOp shlD (dC (.int 1)) (dCl lenD (dCons (dVar 1) dNil))) dNil)) (.nm 3) lwB)
    (sRet (dVar 2)))))
def bitP (q : Nat) : D → Bool
  | .int z => decide (q / 2 ^ z.toNat % 2 = 1)
  | _ => false
def tieAt (ts : List D) : D → D
  | .int z => (ts[z.toNat]?).getD .non
  | d => d
theorem wbK_fil : ∀ {ts : List D} {q : Nat}, ((List.range ts.length).filter fun i => decide (q / 2 ^ i % 2 = 1)).map (fun i => (ts[i]?).getD .non) = wbK ts q
  | [], q => by simp [wbK]
  | t :: ts, q => by
    have ih := wbK_fil (ts := ts) (q := q / 2)
    have e : (List.filter (fun i => decide (q / 2 ^ i % 2 = 1)) (List.map Nat.succ (List.range ts.length))).map (fun i => (((t :: ts))[i]?).getD D.non) = wbK ts (q / 2) := by
      rw [← ih, List.filter_map, List.map_map]
      have : ((fun i => decide (q / 2 ^ i % 2 = 1)) ∘ Nat.succ) = fun i => decide (q / 2 / 2 ^ i % 2 = 1) := by
        funext i
        simp only [Function.comp, Nat.succ_eq_add_one]
        rw [Nat.pow_succ, Nat.mul_comm, ← Nat.div_div_eq_div_mul]
      rw [this]
      rfl
    rw [List.length_cons, List.range_succ_eq_map, wbK, List.filter_cons]
    by_cases c : q % 2 = 1
    · simp only [Nat.pow_zero, Nat.div_one, c, decide_true, if_true]
      rw [List.map_cons, e]
      simp
    · simp only [Nat.pow_zero, Nat.div_one, c, decide_false, if_false]
      rw [if_neg (by simp), e]
      simp
def wbL (ts : List D) : List D := (List.range (2 ^ ts.length)).map fun k => .tup (wbK ts k)
def lwP (S : Sto) (ts : List D) (d : D) (T : Sto) : Prop := d = .ref S.length ∧ Gw S T ∧ T[S.length]? = some (.lst true (wbL ts))
def lwJ (S : Sto) (fr_ : D) (ts : List D) (xs : List D) (ρ : Dv.Env) (T : Sto) : Prop := ∃ (o3 : Option D) (c k : Nat), ρ = [some fr_, some (.tup ts), some (.ref S.length), o3, none] ∧ xs = (List.range' c k).map iD ∧ c + k = 2 ^ ts.length ∧ T[S.length]? = some (.lst true ((List.range c).map fun k => .tup (wbK ts k))) ∧ Gw S T
section
variable {bs : Bodies} {m i : Nat} {S : Sto} {n : Nat} {ts : List D}
theorem and_1 {S : Sto} {q : Nat} : andD (.int (q : Int)) (.int 1) S = .ok (.int ((q % 2 : Nat) : Int)) S := by
  unfold andD
  have : Builtin.bitAnd (q : Int) 1 = ((q % 2 : Nat) : Int) := by
    unfold Builtin.bitAnd
    simp [Nat.and_one_is_mod]
  show R.ok (D.int (Builtin.bitAnd (q : Int) 1)) S = _
  rw [this]
theorem lwebs_ok (hI : bs[i]? = some (lwF, 5)) (hm : 2 ≤ m) (l7 : ts.length ≤ 7) : (Phi bs m 0 i [fr n ts] S).wp (lwP S ts) noX := by
  refine wpP hm hI ?_
  have p7 : 2 ^ ts.length ≤ 2 ^ 7 := Nat.pow_le_pow_right (by omega) l7
  obtain ⟨P, hP⟩ : ∃ P, 2 ^ ts.length = P := ⟨_, rfl⟩
  have s1 := fun S => shl_1 (S := S) (j := ts.length) (by omega) hP
  rw [hP] at p7
  simp [lwF, fr, s1]
  refine ⟨by omega, ?_⟩
  refine for_inv (lwJ S (fr n ts) ts) ?_ ?_ _ _ _ ?_
  · rintro x xs ρ T ⟨o3, c, k, rfl, ex, ck, hT, gw⟩
    obtain ⟨k, rfl, rfl, rfl⟩ := rng_cons ex
    refine ⟨trivial, _, rfl, ?_⟩
    have lt := (List.getElem?_eq_some_iff.mp hT).1
    simp [lwB, iD, hT, wipeE]
    refine ⟨by omega, ?_⟩
    rw [lc_pure (p := bitP c) (g := tieAt ts) (fun acc => trivial) (fun w hw => ?_) (by rw [rng_len]; simp; omega)]
    · have e : ((Src.rng 0 ts.length).items.filter (bitP c)).map (tieAt ts) = wbK ts c := by
        unfold Src.items
        rw [List.filter_map, List.map_map, ← wbK_fil]
        have : (bitP c ∘ fun k : Nat => D.int (0 + (k : Int))) = fun i => decide (c / 2 ^ i % 2 = 1) := by
          funext i; simp [bitP]
        rw [this]
        refine List.map_congr_left fun i _ => ?_
        simp [tieAt]
      have hT' : ∀ W : Sto, (T ++ W)[S.length]? = some (.lst true ((List.range c).map fun k => .tup (wbK ts k))) := fun W => (Gw.app W).kp _ _ hT
      have wl : (wbK ts c).length ≤ ts.length := wbK_len
      simp [e, hT']
      refine ⟨by omega, by omega, ?_⟩
      refine ⟨_, c + 1, k, rfl, rfl, by omega, ?_, (gw.trans (Gw.app _)).put (Nat.le_refl _)⟩
      rw [List.getElem?_set_self (by simp; omega), List.range_succ, List.map_append]
      rfl
    · obtain ⟨q, hq, rfl⟩ := rng_mem hw
      refine ⟨_, rfl, fun acc => ⟨R.eq_of ?_, fun _ => R.eq_of ?_⟩⟩
      · obtain ⟨u, hu⟩ : ∃ u, c / 2 ^ q = u := ⟨_, rfl⟩
        have e1 : shrD (.int (c : Int)) (.int (q : Int)) (T ++ [O.lst true acc]) = .ok (.int (u : Int)) (T ++ [O.lst true acc]) := shr_n hu
        simp [e1, and_1, bitP, hu]
        omega
      · have a1 : L2.atI ts (q : Int) = some ts[q] := L2.atI_nat (by simp [hq])
        simp [a1, tieAt, hq]
  · rintro ρ T ⟨o3, c, k, rfl, ex, ck, hT, gw⟩
    have k0 := rng_nil ex
    refine ⟨trivial, ?_⟩
    simp
    refine ⟨rfl, gw, ?_⟩
    rw [hT, show c = 2 ^ ts.length from by omega]
    rfl
  · exact ⟨none, 0, P, rfl, rng_items, by omega, by simp, Gw.app _⟩
end
end Dv

namespace Dv
open PySem PySem.Spec PyProof.Rows L2 Df
/-! ### things shown, weighed one by one -/
def TngL (S : Sto) (f k w : Nat) (ds : List D) : Prop := ∃ ps, toRs S f ds = some ps ∧ PyData.showableAll ps = true ∧ PyData.leavesShortAll 64 ps = true ∧ PyData.weightAll ps ≤ w ∧ PyData.depthAll ps ≤ k ∧ PyData.hasDictAll ps = false
section
variable {S : Sto} {f k w w' : Nat} {d : D} {ds : List D}
theorem TngL.nil : TngL S f k 0 [] := ⟨[], by cases f <;> rfl, by simp [PyData.showableAll], by simp [PyData.leavesShortAll], by simp [PyData.weightAll], by simp [PyData.depthAll], by simp [PyData.hasDictAll]⟩
theorem TngL.cons (h : Tng S false f k w d) (z : TngL S f k w' ds) : TngL S (f + 1) k (w + w' + 1) (d :: ds) := by
  obtain ⟨p, e, a1, a2, a3, a4, a5⟩ := h
  obtain ⟨ps, es, b1, b2, b3, b4, b5⟩ := z
  refine ⟨p :: ps, ?_, ?_, ?_, ?_, ?_, ?_⟩
  · unfold toRs
    rw [e, es]
  · simp only [PyData.showableAll, a1, b1, Bool.and_self]
  · simp only [PyData.leavesShortAll, a2, b2, Bool.and_self]
  · simp only [PyData.weightAll]; omega
  · simp only [PyData.depthAll]; omega
  · simp_all [PyData.hasDictAll]
theorem TngL.up {f' k' : Nat} (h : TngL S f k w ds) (h1 : f ≤ f') (h2 : k ≤ k') (h3 : w ≤ w') : TngL S f' k' w' ds := by
  obtain ⟨ps, es, b1, b2, b3, b4, b5⟩ := h
  exact ⟨ps, toRs_le h1 es, b1, b2, by omega, by omega, b5⟩
theorem TngL.tup (h : TngL S f k w ds) : Tng S false (f + 1) (k + 1) w (.tup ds) := by
  obtain ⟨ps, e, b1, b2, b3, b4, b5⟩ := h
  refine ⟨.tuple ps, ?_, ?_, ?_, ?_, ?_, ?_⟩
  · unfold toR
    rw [e]; rfl
  · simpa [PyData.showable] using b1
  · simpa [PyData.leavesShort] using b2
  · simpa only [PyData.weight] using b3
  · simp only [PyData.depth]; omega
  · simpa [PyData.hasDict] using b5
theorem TngL.lst {i : Nat} {b : Bool} (hi : S[i]? = some (.lst b ds)) (h : TngL S f k w ds) : Tng S false (f + 1) (k + 1) w (.ref i) := by
  obtain ⟨ps, e, b1, b2, b3, b4, b5⟩ := h
  refine ⟨.list ps, ?_, ?_, ?_, ?_, ?_, ?_⟩
  · unfold toR
    rw [hi]
    simp only
    rw [e]; rfl
  · simpa [PyData.showable] using b1
  · simpa [PyData.leavesShort] using b2
  · simpa only [PyData.weight] using b3
  · simp only [PyData.depth]; omega
  · simpa [PyData.hasDict] using b5
/-- all of one sort -/
theorem TngL.all {n : Nat} (h : ∀ d ∈ ds, Tng S false f k w d) (hn : ds.length ≤ n) : TngL S (f + n) k (n * (w + 1)) ds := by
  obtain ⟨ps, e, b1, b2, b3, b4, b5⟩ := tngs h
  exact ⟨ps, toRs_le (by omega) e, b1, b2, Nat.le_trans b3 (Nat.mul_le_mul_right _ hn), b4, by simpa using b5⟩
theorem TngL.one (h : Tng S false f k w d) : TngL S (f + 1) k (w + 1) [d] := (h.up (Nat.le_refl _) (Nat.le_refl _) (Nat.le_refl _) |> fun z => TngL.cons z TngL.nil).up (by omega) (by omega) (by omega)
theorem wd_str {w : Wd} : Tng S false 1 0 8 (.str (wdS w)) := by
  cases w <;> exact Tng.str (by decide +kernel) (by decide +kernel)
theorem int_small {i : Nat} (h : i ≤ 1000) : Tng S false 1 0 100 (.int (i : Int)) := Tng.int (by
  have : (10 : Nat) ^ 30 = 1000000000000000000000000000000 := by decide
  rw [this]; omega)
/-- a wish is shown -/
theorem wish_tng {n : Nat} {ts : List D} (l7 : ts.length ≤ 7) (n8 : n ≤ 8) (ht : ∀ y ∈ ts, isTie (n : Int) y = true) : ∀ {w : W}, w.ok n ts → Tng S false (200 + 5 * w.sz) (w.sz + 1) (300 * w.sz) (wD w) := by
  intro w
  have tie_b : ∀ {a b : Nat}, tp a b ∈ ts → a ≤ 8 ∧ b ≤ 8 := fun {a b} h => by
    have := of_decide_eq_true (ht _ h)
    omega
  have p7 : 2 ^ ts.length ≤ 2 ^ 7 := Nat.pow_le_pow_right (by omega) l7
  have two : ∀ {x : Str} {e : D} {f k w : Nat}, Tng S false 1 0 8 (.str x) → Tng S false f k w e → 1 ≤ f → Tng S false (f + 3) (k + 1) (w + 10) (.tup [.str x, e]) := fun {x e f k w} hx he hf => by
    have h1 : TngL S (f + 1) k (w + 1) [e] := TngL.one he
    exact ((TngL.cons (hx.up (show 1 ≤ f + 1 by omega) (Nat.zero_le k) (Nat.le_refl _)) h1).tup).up (by omega) (by omega) (by omega)
  have three : ∀ {x : Str} {a b : D} {f k w1 w2 : Nat}, Tng S false 1 0 8 (.str x) → Tng S false f k w1 a → Tng S false f k w2 b → 1 ≤ f → Tng S false (f + 4) (k + 1) (w1 + w2 + 11) (.tup [.str x, a, b]) := fun {x a b f k w1 w2} hx ha hb hf => by
    have h1 : TngL S (f + 1) k (w2 + 1) [b] := TngL.one hb
    have h2 := TngL.cons (ha.up (show f ≤ f + 1 by omega) (Nat.le_refl k) (Nat.le_refl _)) h1
    exact ((TngL.cons (hx.up (show 1 ≤ f + 1 + 1 by omega) (Nat.zero_le k) (Nat.le_refl _)) h2).tup).up (by omega) (by omega) (by omega)
  have st : ∀ x : Str, x.cps.size ≤ 8 → (x.cps.toList.all fun c => decide (c < 16 ^ 8)) = true → Tng S false 1 0 8 (.str x) := fun x a b => Tng.str a b
  induction w with
  | sg w => intro _; exact ((TngL.one (wd_str (w := w))).tup).up (by simp [W.sz]) (by simp [W.sz]) (by simp [W.sz])
  | many j => intro h; have h : j ≤ 99 := h; exact (two (st _ (by decide +kernel) (by decide +kernel)) (int_small (i := j) (by omega)) (by omega)).up (by simp [W.sz]) (by simp [W.sz]) (by simp [W.sz])
  | ends p j => intro h; obtain ⟨h1, h2⟩ : p < n ∧ j ≤ 99 := h; exact (three (st _ (by decide +kernel) (by decide +kernel)) (int_small (i := p) (by omega)) (int_small (i := j) (by omega)) (by omega)).up (by simp [W.sz]) (by simp [W.sz]) (by simp [W.sz])
  | told bo =>
    intro h
    have h : bo.length = 2 ^ ts.length := h
    have hb : TngL S 129 0 128 (bo.map D.bl) := (TngL.all (f := 1) (k := 0) (w := 0) (n := 128) (fun d hd => by obtain ⟨b, _, rfl⟩ := List.mem_map.mp hd; exact Tng.bl) (by rw [List.length_map]; omega)).up (by omega) (by omega) (by omega)
    exact (two (st _ (by decide +kernel) (by decide +kernel)) hb.tup (by omega)).up (by simp [W.sz]) (by simp [W.sz]) (by simp [W.sz])
  | tie a b => intro h; obtain ⟨h1, h2⟩ := tie_b h; exact (three (st _ (by decide +kernel) (by decide +kernel)) (int_small (i := a) (by omega)) (int_small (i := b) (by omega)) (by omega)).up (by simp [W.sz]) (by simp [W.sz]) (by simp [W.sz])
  | way a b => intro h; obtain ⟨h1, h2⟩ : a < b ∧ b < n := h; exact (three (st _ (by decide +kernel) (by decide +kernel)) (int_small (i := a) (by omega)) (int_small (i := b) (by omega)) (by omega)).up (by simp [W.sz]) (by simp [W.sz]) (by simp [W.sz])
  | neg w ih => intro h; exact (two (st _ (by decide +kernel) (by decide +kernel)) (ih h) (by omega)).up (by simp only [W.sz]; omega) (by simp only [W.sz]; omega) (by simp only [W.sz]; omega)
  | mis w ih => intro h; exact (two (st _ (by decide +kernel) (by decide +kernel)) (ih h) (by omega)).up (by simp only [W.sz]; omega) (by simp only [W.sz]; omega) (by simp only [W.sz]; omega)
  | both a b ia ib => intro h; exact (three (st _ (by decide +kernel) (by decide +kernel)) ((ia h.1).up (show _ ≤ 200 + 5 * (a.sz + b.sz) by omega) (show _ ≤ a.sz + b.sz + 1 by omega) (Nat.le_refl _)) ((ib h.2).up (by omega) (by omega) (Nat.le_refl _)) (by omega)).up (by simp only [W.sz]; omega) (by simp only [W.sz]; omega) (by simp only [W.sz]; omega)
  | either a b ia ib => intro h; exact (three (st _ (by decide +kernel) (by decide +kernel)) ((ia h.1).up (show _ ≤ 200 + 5 * (a.sz + b.sz) by omega) (show _ ≤ a.sz + b.sz + 1 by omega) (Nat.le_refl _)) ((ib h.2).up (by omega) (by omega) (Nat.le_refl _)) (by omega)).up (by simp only [W.sz]; omega) (by simp only [W.sz]; omega) (by simp only [W.sz]; omega)
  | one a b ia ib => intro h; exact (three (st _ (by decide +kernel) (by decide +kernel)) ((ia h.1).up (show _ ≤ 200 + 5 * (a.sz + b.sz) by omega) (show _ ≤ a.sz + b.sz + 1 by omega) (Nat.le_refl _)) ((ib h.2).up (by omega) (by omega) (Nat.le_refl _)) (by omega)).up (by simp only [W.sz]; omega) (by simp only [W.sz]; omega) (by simp only [W.sz]; omega)
theorem frame_tng {n : Nat} {ts : List D} (F : Frm n ts) : Tng S false 20 3 2000 (fr n ts) := by
  have hp : ∀ y ∈ ts, Tng S false 4 1 202 y := fun y hy => by
    obtain ⟨a, b, rfl, l1, l2⟩ := tie_sh (F.it y hy)
    have n8 := F.n8
    exact ((TngL.cons ((int_small (S := S) (i := a) (by omega)).up (show 1 ≤ 2 by omega) (Nat.le_refl 0) (Nat.le_refl _)) (TngL.one (int_small (i := b) (by omega)))).tup).up (by omega) (by omega) (by omega)
  have ht : Tng S false 12 2 1421 (.tup ts) := (TngL.all hp F.l7).tup.up (by omega) (by omega) (by omega)
  have n8 := F.n8
  exact ((TngL.cons ((int_small (S := S) (i := n) (by omega)).up (show 1 ≤ 13 by omega) (show 0 ≤ 2 by omega) (Nat.le_refl _)) (TngL.one ht)).tup).up (by omega) (by omega) (by omega)
end
/-- the same text, as long as nothing is changed -/
theorem repr_eq {S : Sto} {f k w : Nat} {d : D} (h : Tng S false f k w d) (h1 : f ≤ 1000) (h2 : k ≤ 60) (h3 : w ≤ 100000) : ∃ x : Str, ∀ T, Gw S T → reprD [d] T = .ok (.str x) T := by
  obtain ⟨p, e, fp⟩ := h.fit h1 h2 h3
  refine ⟨p.shown, fun T g => ?_⟩
  rw [repr_1, toR_kp g.kps e, repO_s, if_pos fp]
end Dv

namespace Dv
open PySem PySem.Spec PyProof.Rows L2 Df
/-! ### a word among words -/
theorem in_s2 {S : Sto} {x a b : Str} (hx : PyData.strOk x = true) (ha : PyData.strOk a = true) (hb : PyData.strOk b = true) : inD (.str x) (.tup [.str a, .str b]) S = .ok (.bl (decide (x = a) || decide (x = b))) S := by
  have e1 : toP S 1000 (.str x) = some (.str x) := rfl
  have e2 : toP S 1000 (.tup [.str a, .str b]) = some (.tuple [.str a, .str b]) := rfl
  have ed : dkD (.tup [.str a, .str b]) S = none := rfl
  have sp : SeqAt.shaped (.str x) = true := by simp [SeqAt.shaped, PyData.canLay0, PyData.depth, hx]
  have sp2 : SeqAt.shaped (.tuple [.str a, .str b]) = true := by simp [SeqAt.shaped, PyData.canLay0, PyData.canLayAll0, PyData.depth, PyData.depthAll, ha, hb]
  unfold inD inB
  rw [ed, e1, e2]
  simp only
  rw [if_pos ⟨sp, sp2⟩]
  have : ([PyData.str a, PyData.str b].any fun y => PyData.eqv y (.str x)) = (decide (x = a) || decide (x = b)) := by
    simp only [List.any_cons, List.any_nil, Bool.or_false, PyData.eqv]
    rw [Bool.eq_iff_iff]
    simp
    constructor
    · rintro (h | h) <;> simp [h]
    · rintro (h | h) <;> simp [h]
  rw [this]
theorem nin_s3 {S : Sto} {x a b c : Str} (hx : PyData.strOk x = true) (ha : PyData.strOk a = true) (hb : PyData.strOk b = true) (hc : PyData.strOk c = true) : ninD (.str x) (.tup [.str a, .str b, .str c]) S = .ok (.bl (!(decide (x = a) || decide (x = b) || decide (x = c)))) S := by
  have e1 : toP S 1000 (.str x) = some (.str x) := rfl
  have e2 : toP S 1000 (.tup [.str a, .str b, .str c]) = some (.tuple [.str a, .str b, .str c]) := rfl
  have ed : dkD (.tup [.str a, .str b, .str c]) S = none := rfl
  have sp : SeqAt.shaped (.str x) = true := by simp [SeqAt.shaped, PyData.canLay0, PyData.depth, hx]
  have sp2 : SeqAt.shaped (.tuple [.str a, .str b, .str c]) = true := by simp [SeqAt.shaped, PyData.canLay0, PyData.canLayAll0, PyData.depth, PyData.depthAll, ha, hb, hc]
  unfold ninD inB
  rw [ed, e1, e2]
  simp only
  rw [if_pos ⟨sp, sp2⟩]
  have : ([PyData.str a, PyData.str b, PyData.str c].any fun y => PyData.eqv y (.str x)) = (decide (x = a) || decide (x = b) || decide (x = c)) := by
    simp only [List.any_cons, List.any_nil, Bool.or_false, PyData.eqv]
    rw [Bool.eq_iff_iff]
    simp
    constructor
    · rintro (h | h | h) <;> simp [h]
    · rintro ((h | h) | h) <;> simp [h]
  rw [this]
/-! ### the facts of all webs -/
noncomputable def afF (iL iA : Nat) : DenS := (sRet (dLc (iVal (dCallF iL 1 (dCons (dVar 0) dNil))) (.nm 1) tYesD (dCallF iA 2 (dCons (dVar 0) (dCons (dVar 1) dNil))) [1]))
structure AF (T : Sto) (n : Nat) (ts : List D) (l : Nat) (rs : List Nat) (B : Nat) : Prop where
  hs : T[l]? = some (.lst true (rs.map D.ref))
  ln : rs.length = 2 ^ ts.length
  it : ∀ (k : Nat) r, rs[k]? = some r → Fct T n ts k r B
  bl : B ≤ l
theorem AF.up {T V : Sto} {n : Nat} {ts : List D} {l B : Nat} {rs : List Nat} (h : AF T n ts l rs B) (g : Gw T V) : AF V n ts l rs B := ⟨g.kp _ _ h.hs, h.ln, fun k r hr => (h.it k r hr).up g, h.bl⟩
theorem AF.ev {T V : Sto} {n : Nat} {ts : List D} {l B r : Nat} {rs : List Nat} {K : O → Prop} (h : AF T n ts l rs B) (e : EvG K r T V) (hr : r < B) : AF V n ts l rs B := ⟨e.kp _ _ (by have := h.bl; omega) h.hs, h.ln, fun k q hq => (h.it k q hq).upx ⟨e.kp, e.ln⟩ hr, h.bl⟩
theorem Fct.cong {T : Sto} {n : Nat} {ts : List D} {k k' l B : Nat} (h : Fct T n ts k l B) (e : wbK ts k = wbK ts k') : Fct T n ts k' l B := by
  have ee : eK ts k = eK ts k' := by unfold eK; rw [e]
  obtain ⟨a, b, c, rs, kv, kvs, h1, h2, h3, h4, h5, h6, h7, h8, h9, h10⟩ := h.ex
  refine ⟨a, b, c, rs, kv, kvs, h1, h2, h3, h4, by rw [← e]; exact h5, by rw [← ee]; exact h6, by rw [← ee]; exact h7, h8, fun w => ?_, h10⟩
  rw [h9 w]
  congr 2
  rw [Bool.eq_iff_iff, tr_iff, tr_iff]
  cases w <;> simp only [Tr, TrW, e, ee]
def afP (S : Sto) (n : Nat) (ts : List D) (d : D) (T : Sto) : Prop := Gw S T ∧ ∃ l rs, d = .ref l ∧ S.length ≤ l ∧ AF T n ts l rs S.length
def afQ (L n : Nat) (ts : List D) (T : Sto) (x : D) (r : Nat) : Prop := ∃ k, x = .tup (wbK ts k) ∧ Fct T n ts k r (L + 1)
def afR (L n : Nat) (ts : List D) (x y : D) (T : Sto) : Prop := ∃ r, y = .ref r ∧ afQ L n ts T x r
section
variable {bs : Bodies} {m iR iS iA iL i : Nat} {S : Sto} {n : Nat} {ts : List D}
theorem afacts_ok (hL : bs[iL]? = some (lwF, 5)) (hR : bs[iR]? = some (reF, 5)) (hS : bs[iS]? = some (tsF iR, 6)) (hA : bs[iA]? = some (faF iR iS, 11)) (hI : bs[i]? = some (afF iL iA, 2)) (hm : 6 ≤ m) (Fm : Frm n ts) : (Phi bs m 0 i [fr n ts] S).wp (afP S n ts) noX := by
  refine wpP (by omega) hI ?_
  have p7 : 2 ^ ts.length ≤ 2 ^ 7 := Nat.pow_le_pow_right (by omega) Fm.l7
  simp [afF]
  refine R.to (lwebs_ok hL (by omega) Fm.l7) ?_
  rintro d T ⟨rfl, g, hw⟩
  simp [hw, wipeE]
  refine R.to (lc_gw (S0 := T) (p := fun _ => true) (P := afR T.length n ts) (fun V gV => gV.kp _ _ hw) ?_ (by simp [wbL]; omega) fun w hwm => ?_) ?_
  · rintro x y T1 T2 ⟨r, e, k, e2, f⟩ gx
    exact ⟨r, e, k, e2, f.upx gx (by omega)⟩
  · obtain ⟨k, hk, rfl⟩ := List.mem_map.mp hwm
    refine ⟨_, rfl, fun V gV lt => ⟨rfl, fun _ => ?_⟩⟩
    simp
    refine R.to (facts_ok hR hS hA (by omega) Fm) ?_
    rintro d V2 ⟨g2, l, rfl, _, fc⟩
    exact ⟨g2, l, rfl, k, rfl, fc.lo (by omega)⟩
  · rintro d V ⟨rfl, gV, ys, hL', z⟩
    rw [fil_true] at z
    obtain ⟨rs, rfl, l2, hz⟩ := zp_refs z
    have lw : (wbL ts).length = 2 ^ ts.length := by simp [wbL]
    simp
    refine ⟨g.trans gV, T.length, rs, rfl, g.ln, hL', by rw [l2, lw], fun k r hr => ?_, g.ln⟩
    have hk : k < 2 ^ ts.length := by rw [← lw, ← l2]; exact (List.getElem?_eq_some_iff.mp hr).1
    obtain ⟨k', e, f⟩ := hz k (.tup (wbK ts k)) r (by unfold wbL; rw [List.getElem?_map, List.getElem?_range hk]; rfl) hr
    have e : wbK ts k = wbK ts k' := D.tup.inj e
    exact (f.cong e.symm).lo (by have := g.ln; omega)
end
/-! ### the truths of a wish for all webs -/
noncomputable def tbR3 : DenS := (sSeq (sIf (dBl (dOp eqD (dVar 2) (dC (.str "both")))) (sRet (dLc (iVal (dVar 4)) (.tp [6, 7]) tYesD (dAndV (dVar 6) (dVar 7)) [6, 7])) sNil)
    (sSeq (sIf (dBl (dOp eqD (dVar 2) (dC (.str "either")))) (sRet (dLc (iVal (dVar 4)) (.tp [6, 7]) tYesD (dOrV (dVar 6) (dVar 7)) [6, 7])) sNil)
    (sRet (dLc (iVal (dVar 4)) (.tp [6, 7]) tYesD (dOp neD (dVar 6) (dVar 7)) [6, 7]))))
noncomputable def tbR2 (iP iB : Nat) : DenS := (sSeq (sIf (dBl (dOp ninD (dVar 2) (dTup (dCons (dC (.str "both")) (dCons (dC (.str "either")) (dCons (dC (.str "one")) dNil)))))) (sRet (dLc (iVal (dVar 0)) (.nm 6) tYesD (dCallF iP 2 (dCons (dVar 6) (dCons (dVar 1) dNil))) [6])) sNil)
    (sSeq (sAsg (.nm 4) (dLZ (dCons (dCallF iB 2 (dCons (dVar 0) (dCons (dOp ixD (dVar 1) (dC (.int 1))) dNil))) (dCons (dCallF iB 2 (dCons (dVar 0) (dCons (dOp ixD (dVar 1) (dC (.int 2))) dNil))) dNil))))
    tbR3))
noncomputable def tbR1 : DenS := (sSeq (sIf (dBl (dOp eqD (dVar 2) (dC (.str "missing")))) (sRet (dUn revD (dVar 3))) sNil)
    (sRet (dLc (iVal (dVar 3)) (.nm 5) tYesD (dUn notD (dVar 5)) [5])))
noncomputable def tbF (iP iB : Nat) : DenS := (sSeq (sAsg (.nm 2) (dOp ixD (dVar 1) (dC (.int 0))))
    (sSeq (sIf (dBl (dOp eqD (dVar 2) (dC (.str "told")))) (sRet (dCl listD (dCons (dOp ixD (dVar 1) (dC (.int 1))) dNil))) sNil)
    (sSeq (sIf (dBl (dOp inD (dVar 2) (dTup (dCons (dC (.str "not")) (dCons (dC (.str "missing")) dNil))))) (sSeq (sAsg (.nm 3) (dCallF iB 2 (dCons (dVar 0) (dCons (dOp ixD (dVar 1) (dC (.int 1))) dNil))))
    tbR1) sNil)
    (tbR2 iP iB))))
/-- the table -/
noncomputable def tblL (n : Nat) (ts : List D) (w : W) : List Bool := (List.range (2 ^ ts.length)).map fun k => tr n ts w k
theorem tblL_len {n : Nat} {ts : List D} {w : W} : (tblL n ts w).length = 2 ^ ts.length := by simp [tblL]
def tbP (S : Sto) (n : Nat) (ts : List D) (w : W) (d : D) (T : Sto) : Prop := Gw S T ∧ ∃ l, d = .ref l ∧ S.length ≤ l ∧ T[l]? = some (.lst true ((tblL n ts w).map D.bl))
def toB : D → Bool
  | .bl b => b
  | _ => false
theorem rev_l {S : Sto} {i : Nat} {w : Bool} {xs : List D} (h : S[i]? = some (.lst w xs)) : revD (.ref i) S = .ok (.ref S.length) (S ++ [.lst true xs.reverse]) := by
  unfold revD itemsD
  simp only [h]
  rfl
section
variable {bs : Bodies} {m iP iB : Nat} {S : Sto} {n : Nat} {ts : List D}
theorem tbl_told {bo : List Bool} (h : bo.length = 2 ^ ts.length) : tblL n ts (.told bo) = bo := by
  refine List.ext_getElem (by rw [tblL_len, h]) fun k h1 h2 => ?_
  simp only [tblL, List.getElem_map, List.getElem_range]
  exact (tr_of (by simp [Tr, List.getElem?_eq_getElem h2])).symm
theorem tbl_mis {w : W} : (tblL n ts (.mis w)) = (tblL n ts w).reverse := by
  refine List.ext_getElem (by simp [tblL_len]) fun k h1 h2 => ?_
  rw [List.getElem_reverse]
  simp only [tblL, List.getElem_map, List.getElem_range, List.length_map, List.length_range]
  exact tr_mis
theorem tbl_neg {w : W} : (tblL n ts (.neg w)) = (tblL n ts w).map (!·) := by
  unfold tblL
  rw [List.map_map]
  exact List.map_congr_left fun k _ => tr_neg
theorem tbl_zip {op : Bool → Bool → Bool} {c a b : W} (h : ∀ k, tr n ts c k = op (tr n ts a k) (tr n ts b k)) : ((((tblL n ts a).map D.bl).zip ((tblL n ts b).map D.bl)).map pr2).map (fun d => match d with | .tup [x, y] => D.bl (op (toB x) (toB y)) | d => d) = (tblL n ts c).map D.bl := by
  unfold tblL
  rw [List.map_map, List.map_map, List.map_map, List.zip_map', List.map_map, List.map_map]
  refine List.map_congr_left fun k _ => ?_
  simp [pr2, toB, h]
/-- pairs of truths, put together -/
theorem lc_two {S : Sto} {l : Nat} {elt : Dv.Env → Sto → R D} {lv : Lv} {op : Bool → Bool → Bool} {as bs' : List Bool} {ρ0 : Dv.Env} (hl : S[l]? = some (.lst true (((as.map D.bl).zip (bs'.map D.bl)).map pr2))) (ln : as.length ≤ 200)
    (he : ∀ (a b : Bool) T, elt ((ρ0.set 6 (some (.bl a))).set 7 (some (.bl b))) T = .ok (.bl (op a b)) T) :
    lcGo S.length (Src.lst l true (((as.map D.bl).zip (bs'.map D.bl)).map pr2)).chk (.tp [6, 7]) (tYesD lv) elt ρ0 (((as.map D.bl).zip (bs'.map D.bl)).map pr2) (S ++ [.lst true []]) = .ok (.ref S.length) (S ++ [.lst true ((((as.map D.bl).zip (bs'.map D.bl)).map pr2).map (fun d => match d with | .tup [x, y] => D.bl (op (toB x) (toB y)) | d => d))]) := by
  rw [lc_pure (p := fun _ => true) (g := fun d => match d with | .tup [x, y] => D.bl (op (toB x) (toB y)) | d => d) (fun acc => (Gw.app _).kp _ _ hl) (fun w hw => ?_) (by simp; omega)]
  · rw [fil_true]; rfl
  · obtain ⟨⟨x, y⟩, hxy, rfl⟩ := List.mem_map.mp hw
    obtain ⟨a, _, rfl⟩ := List.mem_map.mp (List.of_mem_zip hxy).1
    obtain ⟨b, _, rfl⟩ := List.mem_map.mp (List.of_mem_zip hxy).2
    exact ⟨_, tg_p2, fun acc => ⟨rfl, fun _ => he a b _⟩⟩
end
end Dv

namespace Dv
open PySem PySem.Spec PyProof.Rows L2 Df
/-- the word of a wish, and what stands behind it -/
def W.hd : W → Str
  | .sg w => wdS w | .many _ => "many" | .ends _ _ => "ends" | .told _ => "told" | .tie _ _ => "tie" | .way _ _ => "way"
  | .neg _ => "not" | .mis _ => "missing" | .both _ _ => "both" | .either _ _ => "either" | .one _ _ => "one"
def W.tl : W → List D
  | .sg w => [] | .many k => [.int (k : Int)] | .ends p k => [.int (p : Int), .int (k : Int)] | .told bs => [.tup (bs.map D.bl)] | .tie a b => [.int (a : Int), .int (b : Int)] | .way a b => [.int (a : Int), .int (b : Int)]
  | .neg w => [wD w] | .mis w => [wD w] | .both a b => [wD a, wD b] | .either a b => [wD a, wD b] | .one a b => [wD a, wD b]
theorem wD_hd (w : W) : wD w = .tup (.str w.hd :: w.tl) := by cases w <;> rfl
theorem hd_ok (w : W) : PyData.strOk w.hd = true := by
  cases w with
  | sg w => cases w <;> decide +kernel
  | many k => exact (by decide +kernel : PyData.strOk (Str.ofString "many") = true)
  | ends p k => exact (by decide +kernel : PyData.strOk (Str.ofString "ends") = true)
  | told b => exact (by decide +kernel : PyData.strOk (Str.ofString "told") = true)
  | tie a b => exact (by decide +kernel : PyData.strOk (Str.ofString "tie") = true)
  | way a b => exact (by decide +kernel : PyData.strOk (Str.ofString "way") = true)
  | neg w => exact (by decide +kernel : PyData.strOk (Str.ofString "not") = true)
  | mis w => exact (by decide +kernel : PyData.strOk (Str.ofString "missing") = true)
  | both a b => exact (by decide +kernel : PyData.strOk (Str.ofString "both") = true)
  | either a b => exact (by decide +kernel : PyData.strOk (Str.ofString "either") = true)
  | one a b => exact (by decide +kernel : PyData.strOk (Str.ofString "one") = true)
theorem hd_pl {w : W} (h : w.pl0 = true) : decide (w.hd = Str.ofString "told") = false ∧ (∀ T, inD (.str w.hd) (.tup [.str "not", .str "missing"]) T = .ok (.bl false) T) ∧ ∀ T, ninD (.str w.hd) (.tup [.str "both", .str "either", .str "one"]) T = .ok (.bl true) T := by
  have key : w.hd ≠ Str.ofString "told" ∧ w.hd ≠ Str.ofString "not" ∧ w.hd ≠ Str.ofString "missing" ∧ w.hd ≠ Str.ofString "both" ∧ w.hd ≠ Str.ofString "either" ∧ w.hd ≠ Str.ofString "one" := by
    cases w with
    | sg w => cases w <;> simp [W.hd, wdS]
    | many j => simp [W.hd]
    | ends p j => simp [W.hd]
    | tie a b => simp [W.hd]
    | way a b => simp [W.hd]
    | _ => cases h
  obtain ⟨k1, k2, k3, k4, k5, k6⟩ := key
  refine ⟨decide_eq_false k1, fun T => ?_, fun T => ?_⟩
  · rw [in_s2 (hd_ok w) (by decide +kernel) (by decide +kernel), decide_eq_false k2, decide_eq_false k3]; rfl
  · rw [nin_s3 (hd_ok w) (by decide +kernel) (by decide +kernel) (by decide +kernel), decide_eq_false k4, decide_eq_false k5, decide_eq_false k6]; rfl
section
variable {bs : Bodies} {m iP iB : Nat} {S : Sto} {n : Nat} {ts : List D}
/-- a plain wish held against the facts one by one -/
theorem pl_run (hP : bs[iP]? = some (plF, 3)) (hm : 2 ≤ m) (Fm : Frm n ts) {l : Nat} {rs : List Nat} {w : W} (ok : w.ok n ts) (hp : w.pl0 = true) (hl : S[l]? = some (.lst true (rs.map D.ref))) {y : Option D} {i1 i2 i3 i5 : Option D} {B : Nat} : ∀ (us : List Nat) (c : Nat), (∀ k r, us[k]? = some r → Fct S n ts (c + k) r B) → ∀ acc : List D, acc.length + us.length ≤ 200 →
    lcGo S.length (Src.lst l true (rs.map D.ref)).chk (.nm 6) (tYesD (Phi bs m)) (dCallF iP 2 (dCons (dVar 6) (dCons (dVar 1) dNil)) (Phi bs m)) [some (.ref l), some (wD w), y, i1, i2, i3, none, i5] (us.map D.ref) (S ++ [.lst true acc]) = .ok (.ref S.length) (S ++ [.lst true (acc ++ (List.range' c us.length).map fun k => .bl (tr n ts w k))])
  | [], c, _, acc, _ => by
    rw [List.map_nil]
    unfold lcGo
    rw [if_pos (show (Src.lst l true (rs.map D.ref)).chk (S ++ [.lst true acc]) from (Gw.app _).kp _ _ hl)]
    simp
  | r :: us, c, h, acc, hlen => by
    rw [List.length_cons] at hlen
    have f := (h 0 r rfl).up (Gw.app (S := S) [.lst true acc])
    rw [Nat.add_zero] at f
    have pe := plain_eq (i := iP) (m := m) hP hm Fm f ok hp
    rw [List.map_cons]
    unfold lcGo
    rw [if_pos (show (Src.lst l true (rs.map D.ref)).chk (S ++ [.lst true acc]) from (Gw.app _).kp _ _ hl)]
    have e1 : dCallF iP 2 (dCons (dVar 6) (dCons (dVar 1) dNil)) (Phi bs m) [some (.ref l), some (wD w), y, i1, i2, i3, some (.ref r), i5] (S ++ [.lst true acc]) = .ok (.bl (tr n ts w c)) (S ++ [.lst true acc]) := R.eq_of (by simp [pe])
    have e2 : tYesD (Phi bs m) [some (.ref l), some (wD w), y, i1, i2, i3, some (.ref r), i5] (S ++ [.lst true acc]) = .ok true (S ++ [.lst true acc]) := rfl
    have e3 : tgD (.nm 6) (.ref r) [some (.ref l), some (wD w), y, i1, i2, i3, none, i5] = some [some (.ref l), some (wD w), y, i1, i2, i3, some (.ref r), i5] := rfl
    simp only [e3, e2, e1, quiet_ok, R.bind_ok, if_true]
    have e4 : (S ++ [O.lst true acc])[S.length]? = some (.lst true acc) := by simp
    simp only [e4]
    rw [if_pos (show acc.length < mx from mx_small (by omega))]
    have e5 : (S ++ [O.lst true acc]).set S.length (.lst true (acc ++ [.bl (tr n ts w c)])) = S ++ [.lst true (acc ++ [.bl (tr n ts w c)])] := by simp
    rw [e5, pl_run hP hm Fm ok hp hl us (c + 1) (fun k r hr => by have := h (k + 1) r (by simpa using hr); rw [show c + 1 + k = c + (k + 1) from by omega]; exact this) _ (by rw [List.length_append, List.length_singleton]; omega)]
    rw [List.length_cons, List.range'_succ]
    simp
theorem table_ok (hP : bs[iP]? = some (plF, 3)) (hB : bs[iB]? = some (tbF iP iB, 8)) (Fm : Frm n ts) {l B : Nat} {rs : List Nat} : ∀ (w : W) (m : Nat) (S : Sto), w.ok n ts → w.sz + 3 ≤ m → AF S n ts l rs B → (Phi bs m 0 iB [.ref l, wD w] S).wp (tbP S n ts w) noX := by
  have p7 : 2 ^ ts.length ≤ 2 ^ 7 := Nat.pow_le_pow_right (by omega) Fm.l7
  have fin : ∀ (S T : Sto) (w : W), Gw S T → tbP S n ts w (.ref T.length) (T ++ [.lst true ((tblL n ts w).map D.bl)]) := fun S T w g => ⟨g.trans (Gw.app _), _, rfl, g.ln, at_a0⟩
  have pl : ∀ (w : W) (m : Nat) (S : Sto), w.ok n ts → w.pl0 = true → 4 ≤ m → AF S n ts l rs B → (Phi bs m 0 iB [.ref l, wD w] S).wp (tbP S n ts w) noX := by
    intro w m S ok hp hm af
    obtain ⟨h1, h2, h3⟩ := hd_pl hp
    refine wpP (by omega) hB ?_
    have run := pl_run (bs := bs) (S := S) (m := m - 1) hP (by omega) Fm ok hp af.hs (y := some (.str w.hd)) (i1 := none) (i2 := none) (i3 := none) (i5 := none) rs 0 (fun k r hr => by rw [Nat.zero_add]; exact af.it k r hr) [] (by rw [af.ln]; simp; omega)
    have e : (List.range' 0 rs.length).map (fun k => D.bl (tr n ts w k)) = (tblL n ts w).map D.bl := by
      unfold tblL
      rw [af.ln, List.range_eq_range', List.map_map]
      rfl
    rw [List.nil_append, e] at run
    rw [wD_hd] at run ⊢
    simp [tbF, tbR2, h1, h2, h3, af.hs, wipeE]
    rw [run]
    simp
    exact fin S S w Gw.refl
  intro w
  induction w with
  | told bo =>
    intro m S ok hm af
    refine wpP (by simp [W.sz] at hm; omega) hB ?_
    have ok : bo.length = 2 ^ ts.length := ok
    simp [tbF, wD]
    refine ⟨by omega, ?_⟩
    have := fin S S (.told bo) Gw.refl
    rw [tbl_told ok] at this
    exact this
  | neg w ih =>
    intro m S ok hm af
    simp only [W.sz] at hm
    refine wpP (by omega) hB ?_
    have i2 : ∀ T, inD (.str "not") (.tup [.str "not", .str "missing"]) T = .ok (.bl true) T := fun T => by rw [in_s2 (by decide +kernel) (by decide +kernel) (by decide +kernel)]; simp
    simp [tbF, wD, i2]
    refine R.to (ih (m - 1) S ok (by omega) af) ?_
    rintro d T ⟨g, q, rfl, lq, hq⟩
    simp [tbR1, hq, wipeE]
    rw [lc_pure (p := fun _ => true) (g := fun d => .bl (!toB d)) (fun acc => (Gw.app _).kp _ _ hq) (fun x hx => ?_) (by simp [tblL_len]; omega)]
    · simp [fil_true]
      have := fin S T (.neg w) g
      rw [tbl_neg, List.map_map] at this
      exact this
    · obtain ⟨b, _, rfl⟩ := List.mem_map.mp hx
      exact ⟨_, rfl, fun acc => ⟨rfl, fun _ => R.eq_of (by simp [toB])⟩⟩
  | mis w ih =>
    intro m S ok hm af
    simp only [W.sz] at hm
    refine wpP (by omega) hB ?_
    have i2 : ∀ T, inD (.str "missing") (.tup [.str "not", .str "missing"]) T = .ok (.bl true) T := fun T => by rw [in_s2 (by decide +kernel) (by decide +kernel) (by decide +kernel)]; simp
    simp [tbF, wD, i2]
    refine R.to (ih (m - 1) S ok (by omega) af) ?_
    rintro d T ⟨g, q, rfl, lq, hq⟩
    simp [tbR1, rev_l hq]
    have := fin S T (.mis w) g
    rw [tbl_mis, List.map_reverse] at this
    exact this
  | both a b ia ib =>
    intro m S ok hm af
    simp only [W.sz] at hm
    refine wpP (by omega) hB ?_
    have i2 : ∀ T, inD (.str "both") (.tup [.str "not", .str "missing"]) T = .ok (.bl false) T := fun T => by rw [in_s2 (by decide +kernel) (by decide +kernel) (by decide +kernel)]; simp
    have i3 : ∀ T, ninD (.str "both") (.tup [.str "both", .str "either", .str "one"]) T = .ok (.bl false) T := fun T => by rw [nin_s3 (by decide +kernel) (by decide +kernel) (by decide +kernel) (by decide +kernel)]; simp
    simp [tbF, tbR2, wD, i2, i3]
    refine R.to (ia (m - 1) S ok.1 (by omega) af) ?_
    rintro d T ⟨g, q, rfl, lq, hq⟩
    simp
    refine R.to (ib (m - 1) T ok.2 (by omega) (af.up g)) ?_
    rintro d T2 ⟨g2, q2, rfl, lq2, hq2⟩
    simp [g2.kp _ _ hq, hq2, tblL_len]
    refine ⟨by omega, ?_⟩
    have hz : (T2 ++ [O.lst true ((((tblL n ts a).map D.bl).zip ((tblL n ts b).map D.bl)).map pr2)])[T2.length]? = some (.lst true ((((tblL n ts a).map D.bl).zip ((tblL n ts b).map D.bl)).map pr2)) := at_a0
    obtain ⟨V, hV⟩ : ∃ V, T2 ++ [O.lst true ((((tblL n ts a).map D.bl).zip ((tblL n ts b).map D.bl)).map pr2)] = V := ⟨_, rfl⟩
    rw [hV] at hz ⊢
    have gV : Gw S V := by rw [← hV]; exact (g.trans g2).trans (Gw.app _)
    simp [tbR3, hz, wipeE]
    rw [lc_two (op := fun x y => x && y) hz (by rw [tblL_len]; omega) (fun x y T => R.eq_of (by cases x <;> simp)), tbl_zip (op := fun x y => x && y) (c := .both a b) fun k => tr_both]
    simp
    exact fin S V _ gV
  | either a b ia ib =>
    intro m S ok hm af
    simp only [W.sz] at hm
    refine wpP (by omega) hB ?_
    have i2 : ∀ T, inD (.str "either") (.tup [.str "not", .str "missing"]) T = .ok (.bl false) T := fun T => by rw [in_s2 (by decide +kernel) (by decide +kernel) (by decide +kernel)]; simp
    have i3 : ∀ T, ninD (.str "either") (.tup [.str "both", .str "either", .str "one"]) T = .ok (.bl false) T := fun T => by rw [nin_s3 (by decide +kernel) (by decide +kernel) (by decide +kernel) (by decide +kernel)]; simp
    simp [tbF, tbR2, wD, i2, i3]
    refine R.to (ia (m - 1) S ok.1 (by omega) af) ?_
    rintro d T ⟨g, q, rfl, lq, hq⟩
    simp
    refine R.to (ib (m - 1) T ok.2 (by omega) (af.up g)) ?_
    rintro d T2 ⟨g2, q2, rfl, lq2, hq2⟩
    simp [g2.kp _ _ hq, hq2, tblL_len]
    refine ⟨by omega, ?_⟩
    have hz : (T2 ++ [O.lst true ((((tblL n ts a).map D.bl).zip ((tblL n ts b).map D.bl)).map pr2)])[T2.length]? = some (.lst true ((((tblL n ts a).map D.bl).zip ((tblL n ts b).map D.bl)).map pr2)) := at_a0
    obtain ⟨V, hV⟩ : ∃ V, T2 ++ [O.lst true ((((tblL n ts a).map D.bl).zip ((tblL n ts b).map D.bl)).map pr2)] = V := ⟨_, rfl⟩
    rw [hV] at hz ⊢
    have gV : Gw S V := by rw [← hV]; exact (g.trans g2).trans (Gw.app _)
    simp [tbR3, hz, wipeE]
    rw [lc_two (op := fun x y => x || y) hz (by rw [tblL_len]; omega) (fun x y T => R.eq_of (by cases x <;> simp)), tbl_zip (op := fun x y => x || y) (c := .either a b) fun k => tr_either]
    simp
    exact fin S V _ gV
  | one a b ia ib =>
    intro m S ok hm af
    simp only [W.sz] at hm
    refine wpP (by omega) hB ?_
    have i2 : ∀ T, inD (.str "one") (.tup [.str "not", .str "missing"]) T = .ok (.bl false) T := fun T => by rw [in_s2 (by decide +kernel) (by decide +kernel) (by decide +kernel)]; simp
    have i3 : ∀ T, ninD (.str "one") (.tup [.str "both", .str "either", .str "one"]) T = .ok (.bl false) T := fun T => by rw [nin_s3 (by decide +kernel) (by decide +kernel) (by decide +kernel) (by decide +kernel)]; simp
    simp [tbF, tbR2, wD, i2, i3]
    refine R.to (ia (m - 1) S ok.1 (by omega) af) ?_
    rintro d T ⟨g, q, rfl, lq, hq⟩
    simp
    refine R.to (ib (m - 1) T ok.2 (by omega) (af.up g)) ?_
    rintro d T2 ⟨g2, q2, rfl, lq2, hq2⟩
    simp [g2.kp _ _ hq, hq2, tblL_len]
    refine ⟨by omega, ?_⟩
    have hz : (T2 ++ [O.lst true ((((tblL n ts a).map D.bl).zip ((tblL n ts b).map D.bl)).map pr2)])[T2.length]? = some (.lst true ((((tblL n ts a).map D.bl).zip ((tblL n ts b).map D.bl)).map pr2)) := at_a0
    obtain ⟨V, hV⟩ : ∃ V, T2 ++ [O.lst true ((((tblL n ts a).map D.bl).zip ((tblL n ts b).map D.bl)).map pr2)] = V := ⟨_, rfl⟩
    rw [hV] at hz ⊢
    have gV : Gw S V := by rw [← hV]; exact (g.trans g2).trans (Gw.app _)
    simp [tbR3, hz, wipeE]
    rw [lc_two (op := fun x y => !decide (x = y)) hz (by rw [tblL_len]; omega) (fun x y T => R.eq_of (by simp)), tbl_zip (op := fun x y => !decide (x = y)) (c := .one a b) fun k => tr_one]
    simp
    exact fin S V _ gV
  | sg w => intro m S ok hm af; exact pl _ m S ok rfl (by simp [W.sz] at hm; omega) af
  | many j => intro m S ok hm af; exact pl _ m S ok rfl (by simp [W.sz] at hm; omega) af
  | ends p j => intro m S ok hm af; exact pl _ m S ok rfl (by simp [W.sz] at hm; omega) af
  | tie a b => intro m S ok hm af; exact pl _ m S ok rfl (by simp [W.sz] at hm; omega) af
  | way a b => intro m S ok hm af; exact pl _ m S ok rfl (by simp [W.sz] at hm; omega) af
end
end Dv

namespace Dv
open PySem PySem.Spec PyProof.Rows L2 Df
/-! ### wishes drawn -/
noncomputable def p99D (iT : Nat) (N : Int) : Den := (dOp ixD (dLst (dCons (dCallF iT 2 (dCons (dVar 0) (dCons (dC (.int N)) dNil))) (dCons (dC (.int 99)) dNil))) (dCl intD (dCons (dOp eqD (dCallF iT 2 (dCons (dVar 0) (dCons (dC (.int 16)) dNil))) (dC (.int 5))) dNil)))
noncomputable def tldD (iT : Nat) : Den := (dCl tupleD (dCons (dLc (iRange1 (dCons (dOp shlD (dC (.int 1)) (dCl lenD (dCons (dVar 3) dNil))) dNil)) (.nm 6) tYesD (dOp eqD (dCallF iT 2 (dCons (dVar 0) (dCons (dC (.int 2)) dNil))) (dC (.int 1))) [6]) dNil))
noncomputable def pwR4 : DenS := (sRet (dTup (dCons (dOp ixD (dLst (dCons (dVar 4) (dCons (dC (.str "odd")) dNil))) (dCl intD (dCons (dOp inD (dVar 4) (dTup (dCons (dC (.str "tie")) (dCons (dC (.str "way")) dNil)))) dNil))) dNil)))
noncomputable def pwR3b (iT : Nat) : DenS := (sSeq (sAsg (.nm 5) (dCallF iT 2 (dCons (dVar 0) (dCons (dOp subD (dVar 2) (dC (.int 1))) dNil))))
    (sRet (dTup (dCons (dC (.str "way")) (dCons (dVar 5) (dCons (dOp addD (dOp addD (dVar 5) (dC (.int 1))) (dCallF iT 2 (dCons (dVar 0) (dCons (dOp subD (dOp subD (dVar 2) (dC (.int 1))) (dVar 5)) dNil)))) dNil))))))
noncomputable def pwR3 (iT : Nat) : DenS := (sSeq (sIf (dAndT (dBl (dOp inD (dVar 4) (dTup (dCons (dC (.str "tie")) (dCons (dC (.str "way")) dNil))))) (dBl (dOp gtD (dVar 2) (dC (.int 1))))) (pwR3b iT) sNil)
    pwR4)
noncomputable def pwR2 (iT : Nat) : DenS := (sSeq (sIf (dAndT (dBl (dOp eqD (dVar 4) (dC (.str "tie")))) (dBl (dOp neD (dVar 3) (dTup dNil)))) (sRet (dOp addD (dTup (dCons (dVar 4) dNil)) (dOp ixD (dVar 3) (dCallF iT 2 (dCons (dVar 0) (dCons (dCl lenD (dCons (dVar 3) dNil)) dNil)))))) sNil)
    (pwR3 iT))
noncomputable def pwR1 (iT : Nat) : DenS := (sSeq (sIf (dBl (dOp eqD (dVar 4) (dC (.str "many")))) (sRet (dTup (dCons (dVar 4) (dCons (p99D iT 9) dNil)))) sNil)
    (sSeq (sIf (dBl (dOp eqD (dVar 4) (dC (.str "ends")))) (sRet (dTup (dCons (dVar 4) (dCons (dCallF iT 2 (dCons (dVar 0) (dCons (dVar 2) dNil))) (dCons (p99D iT 5) dNil))))) sNil)
    (sSeq (sIf (dBl (dOp eqD (dVar 4) (dC (.str "told")))) (sRet (dTup (dCons (dVar 4) (dCons (tldD iT) dNil)))) sNil)
    (pwR2 iT))))
noncomputable def pwF (iT : Nat) : DenS := (sSeq (sAsg (.tp [2, 3]) (dVar 1))
    (sSeq (sAsg (.nm 4) (dLst (dCons (dC (.str "odd")) (dCons (dC (.str "joined")) (dCons (dC (.str "ring")) (dCons (dC (.str "three")) (dCons (dC (.str "hub")) (dCons (dC (.str "lone")) (dCons (dC (.str "sides")) (dCons (dC (.str "many")) (dCons (dC (.str "ends")) (dCons (dC (.str "told")) (dCons (dC (.str "tie")) (dCons (dC (.str "way")) dNil))))))))))))))
    (sSeq (sAsg (.nm 4) (dOp ixD (dVar 4) (dCallF iT 2 (dCons (dVar 0) (dCons (dC (.int 12)) dNil)))))
    (pwR1 iT))))
/-- a wish drawn -/
def pwP (K : O → Prop) (S : Sto) (r n : Nat) (ts : List D) (N : Nat) (d : D) (T : Sto) : Prop := EvG K r S T ∧ ∃ w : W, d = wD w ∧ w.ok n ts ∧ w.sz ≤ N
theorem ne_nilt {S : Sto} {ts : List D} (h : AllB ts) (hl : ts.length ≤ 100) : neD (.tup ts) (.tup []) S = .ok (.bl (decide (ts ≠ []))) S := by
  have e2 : toP S 1000 (.tup ts) = some (.tuple (ts.map prP)) := by
    have e := toPs_bp (S := S) (n := 994 - ts.length) h
    rw [show 994 - ts.length + 5 + ts.length = 999 from by omega] at e
    unfold toP
    rw [e]; rfl
  have e3 : toP S 1000 (.tup []) = some (.tuple []) := rfl
  obtain ⟨a, b⟩ := shp_prs h
  have s2 : SeqAt.shaped (.tuple (ts.map prP)) = true := by
    simp [SeqAt.shaped, PyData.canLay0, PyData.depth, a]; omega
  have s3 : SeqAt.shaped (.tuple []) = true := by decide +kernel
  unfold neD eqB
  simp only [eqS, e2, e3]
  rw [if_pos ⟨s2, s3⟩]
  cases ts <;> rfl
section
variable {bs : Bodies} {K : O → Prop} {iT m r n : Nat} {ts : List D} {S : Sto}
def pwE (r n : Nat) (ts : List D) (x : D) (o5 : Option D) : Dv.Env := [some (.ref r), some (fr n ts), some (.int (n : Int)), some (.tup ts), some x, o5, none]
def q99 (K : O → Prop) (r : Nat) (S : Sto) (d : D) (T : Sto) : Prop := ∃ q : Nat, d = .int (q : Int) ∧ q ≤ 99 ∧ EvG K r S T
theorem p99_ok (hT : TakeOk bs iT K) (hm : 2 ≤ m) (hp : PnG K S r) {N : Int} (N0 : 0 < N) (N9 : N ≤ 99) {x : D} {o5 : Option D} : (p99D iT N (Phi bs m) (pwE r n ts x o5) S).wp (q99 K r S) noX := by
  have hr := hp.lt
  simp [p99D, pwE]
  refine R.to (hT m S r N hm hp N0 (by omega)) ?_
  rintro d T1 ⟨j, rfl, j1, ev1, l1⟩
  have ev2 := ev1.app' [.lst true [.int (j : Int), .int 99]]
  simp
  refine R.to (hT m _ r 16 hm ev2.pn (by omega) (by omega)) ?_
  rintro d T2 ⟨k, rfl, k1, ev3, l3⟩
  have h2 : T2[T1.length]? = some (.lst true [.int (j : Int), .int 99]) := ev3.kp _ _ (by omega) at_a0
  by_cases c : k = 5
  · simp [c, h2]
    exact ⟨99, rfl, by omega, ev2.trans ev3⟩
  · have c' : ¬ ((k : Int) = 5) := by omega
    simp [c', h2]
    exact ⟨j, rfl, by omega, ev2.trans ev3⟩
def tlQ (K : O → Prop) (r : Nat) (S : Sto) (ts : List D) (d : D) (T : Sto) : Prop := ∃ bo : List Bool, d = .tup (bo.map D.bl) ∧ bo.length = 2 ^ ts.length ∧ EvG K r S T
def tlJ (K : O → Prop) (S : Sto) (r : Nat) (N : Nat) (xs : List D) (T : Sto) : Prop := ∃ bo : List Bool, T[S.length]? = some (.lst true (bo.map D.bl)) ∧ bo.length + xs.length = N ∧ EvG K r S T
theorem tld_ok (hT : TakeOk bs iT K) (hm : 2 ≤ m) (hp : PnG K S r) (l7 : ts.length ≤ 7) {x : D} {o5 : Option D} : (tldD iT (Phi bs m) (pwE r n ts x o5) S).wp (tlQ K r S ts) noX := by
  have hr := hp.lt
  have p7 : 2 ^ ts.length ≤ 2 ^ 7 := Nat.pow_le_pow_right (by omega) l7
  obtain ⟨P, hP⟩ : ∃ P, 2 ^ ts.length = P := ⟨_, rfl⟩
  have s1 := fun S => shl_1 (S := S) (j := ts.length) (by omega) hP
  rw [hP] at p7
  simp [tldD, pwE, s1, wipeE]
  refine ⟨by omega, ?_⟩
  refine lc_inv (tlJ K S r P) ?_ ?_ _ _ ?_
  · rintro z zs T ⟨bo, hL, ln, ev⟩
    refine ⟨trivial, _, rfl, ?_⟩
    rw [List.length_cons] at ln
    simp
    refine R.to (hT m T r 2 hm ev.pn (by omega) (by omega)) ?_
    rintro d T2 ⟨j, rfl, j1, ev2, l2⟩
    have h2 := ev2.kp _ _ (by omega) hL
    have lt2 := (List.getElem?_eq_some_iff.mp h2).1
    simp
    refine ⟨bo.map D.bl, h2, mx_small (by simp; omega), bo ++ [decide ((j : Int) = 1)], ?_, by simp; omega, (ev.trans ev2).put hr (Nat.le_refl _)⟩
    rw [List.getElem?_set_self lt2, List.map_append]
    rfl
  · rintro T ⟨bo, hL, ln, ev⟩
    refine ⟨trivial, ?_⟩
    simp at ln
    simp [hL]
    exact ⟨by omega, bo, rfl, by omega, ev⟩
  · exact ⟨[], by simp, by rw [rng_len]; simp, EvG.app hp _⟩
theorem pwR3_ok {F : DenS} (hF : F = pwR3 iT) (hT : TakeOk bs iT K) (hm : 2 ≤ m) (Fm : Frm n ts) {x : Str} {T : Sto} {o5 : Option D} (hx : x = Str.ofString "tie" ∨ x = Str.ofString "way" ∨ ∃ w, x = wdS w) (ev : EvG K r S T) :
    (F (Phi bs m) (pwE r n ts (.str x) o5) T).wp (FlR (pwP K S r n ts 1) noX) noX := by
  subst hF
  have n8 := Fm.n8
  have sx : PyData.strOk x = true := by
    rcases hx with rfl | rfl | ⟨w, rfl⟩
    · decide +kernel
    · decide +kernel
    · cases w <;> decide +kernel
  have i2 : ∀ T, inD (.str x) (.tup [.str "tie", .str "way"]) T = .ok (.bl (decide (x = Str.ofString "tie") || decide (x = Str.ofString "way"))) T := fun T => in_s2 sx (by decide +kernel) (by decide +kernel)
  -- tie or way
  have tw : (decide (x = Str.ofString "tie") || decide (x = Str.ofString "way")) = true → (pwR3 iT (Phi bs m) (pwE r n ts (.str x) o5) T).wp (FlR (pwP K S r n ts 1) noX) noX := fun e => by
    have i2t : ∀ T, inD (.str x) (.tup [.str "tie", .str "way"]) T = .ok (.bl true) T := fun T => by rw [i2, e]
    unfold pwR3
    generalize hG : pwR4 = G
    generalize hH : pwR3b iT = H
    by_cases c : 1 < n
    · have c' : (1 : Int) < (n : Int) := by omega
      simp [pwE, i2t, c']
      subst hH
      unfold pwR3b
      simp
      refine R.to (hT m T r ((n : Int) - 1) hm ev.pn (by omega) (by omega)) ?_
      rintro d T1 ⟨a, rfl, ha, ev1, l1⟩
      simp
      refine R.to (hT m T1 r ((n : Int) - 1 - (a : Int)) hm ev1.pn (by omega) (by omega)) ?_
      rintro d T2 ⟨b, rfl, hb, ev2, l2⟩
      simp
      exact ⟨ev.trans (ev1.trans ev2), .way a (a + 1 + b), rfl, ⟨by omega, by omega⟩, Nat.le_refl _⟩
    · have c' : ¬ ((1 : Int) < (n : Int)) := by omega
      simp [pwE, i2t, c']
      subst hG
      simp [pwR4, i2t]
      exact ⟨ev.app' _, .sg .odd, rfl, trivial, Nat.le_refl _⟩
  rcases hx with rfl | rfl | ⟨w, rfl⟩
  · exact tw (by simp)
  · exact tw (by simp)
  · have e : (decide (wdS w = Str.ofString "tie") || decide (wdS w = Str.ofString "way")) = false := by cases w <;> simp [wdS]
    have i2f : ∀ T, inD (.str (wdS w)) (.tup [.str "tie", .str "way"]) T = .ok (.bl false) T := fun T => by rw [i2, e]
    simp [pwR3, pwR4, pwE, i2f]
    exact ⟨ev.app' _, .sg w, rfl, trivial, Nat.le_refl _⟩
theorem pwR2_ok {F : DenS} (hF : F = pwR2 iT) (hT : TakeOk bs iT K) (hm : 2 ≤ m) (Fm : Frm n ts) {x : Str} {T : Sto} {o5 : Option D} (hx : x = Str.ofString "tie" ∨ x = Str.ofString "way" ∨ ∃ w, x = wdS w) (ev : EvG K r S T) :
    (F (Phi bs m) (pwE r n ts (.str x) o5) T).wp (FlR (pwP K S r n ts 1) noX) noX := by
  subst hF
  have l7 := Fm.l7
  unfold pwR2
  generalize hG : pwR3 iT = G
  have r3 := fun T ev => pwR3_ok (S := S) (r := r) (T := T) (o5 := o5) (x := x) hG.symm hT hm Fm hx ev
  by_cases c : x = Str.ofString "tie"
  · have nn := ne_nilt (S := T) Fm.b (by omega)
    by_cases c2 : ts = []
    · have nn' : neD (.tup ts) (.tup []) T = .ok (.bl false) T := by rw [nn]; simp [c2]
      simp [pwE, c, nn']
      have := r3 T ev
      rw [c] at this
      exact this
    · have nn' : neD (.tup ts) (.tup []) T = .ok (.bl true) T := by rw [nn]; simp [c2]
      have tpos : 0 < ts.length := List.length_pos_iff.mpr c2
      simp [pwE, c, nn']
      refine R.to (hT m T r (ts.length : Int) hm ev.pn (by omega) (by omega)) ?_
      rintro d T1 ⟨j, rfl, hj, ev1, l1⟩
      have jl : j < ts.length := by omega
      have a1 : L2.atI ts (j : Int) = some ts[j] := L2.atI_nat (by simp [jl])
      obtain ⟨a, b, eab, l1', l2'⟩ := tie_sh (Fm.it ts[j] (List.getElem_mem jl))
      simp [a1, eab]
      exact ⟨ev.trans ev1, .tie a b, rfl, by show tp a b ∈ ts; unfold tp; rw [← eab]; exact List.getElem_mem jl, Nat.le_refl _⟩
  · simp [pwE, c]
    exact r3 T ev
theorem pwish_ok {iW : Nat} (hT : TakeOk bs iT K) (hW : bs[iW]? = some (pwF iT, 7)) (hm : 3 ≤ m) (Fm : Frm n ts) (hp : PnG K S r) : (Phi bs m 0 iW [.ref r, fr n ts] S).wp (pwP K S r n ts 1) noX := by
  refine wpP (by omega) hW ?_
  have hr := hp.lt
  have n8 := Fm.n8
  have n1 := Fm.n1
  unfold pwF
  generalize hG : pwR1 iT = G
  simp [fr]
  refine pick_g hT (by omega) (EvG.app hp _).pn at_a0 (by omega) rfl (by simp) (by simp) fun x hx T1 ev1 l1 => ?_
  have ev : EvG K r S T1 := (EvG.app hp _).trans ev1
  simp
  subst hG
  show (pwR1 iT (Phi bs (m - 1)) (pwE r n ts x none) T1).wp _ _
  have rest : ∀ y : Str, x = .str y → (y = Str.ofString "tie" ∨ y = Str.ofString "way" ∨ ∃ w, y = wdS w) → (pwR1 iT (Phi bs (m - 1)) (pwE r n ts x none) T1).wp (FlR (pwP K S r n ts 1) noX) noX := fun y ex hy => by
    subst ex
    have n1 : ¬ (y = Str.ofString "many") ∧ ¬ (y = Str.ofString "ends") ∧ ¬ (y = Str.ofString "told") := by
      rcases hy with rfl | rfl | ⟨w, rfl⟩
      · simp
      · simp
      · cases w <;> simp [wdS]
    unfold pwR1
    generalize hG : pwR2 iT = G
    simp [pwE, n1]
    exact pwR2_ok (o5 := none) hG.symm hT (by omega) Fm hy ev
  simp only [List.mem_cons, List.not_mem_nil, or_false] at hx
  rcases hx with rfl | rfl | rfl | rfl | rfl | rfl | rfl | rfl | rfl | rfl | rfl | rfl
  · exact rest _ rfl (.inr (.inr ⟨.odd, rfl⟩))
  · exact rest _ rfl (.inr (.inr ⟨.joined, rfl⟩))
  · exact rest _ rfl (.inr (.inr ⟨.ring, rfl⟩))
  · exact rest _ rfl (.inr (.inr ⟨.three, rfl⟩))
  · exact rest _ rfl (.inr (.inr ⟨.hub, rfl⟩))
  · exact rest _ rfl (.inr (.inr ⟨.lone, rfl⟩))
  · exact rest _ rfl (.inr (.inr ⟨.sides, rfl⟩))
  · unfold pwR1
    simp [pwE]
    refine R.to (p99_ok (m := m - 1) (N := 9) (x := .str "many") (o5 := none) (n := n) (ts := ts) hT (by omega) ev.pn (by omega) (by omega)) ?_
    rintro d T2 ⟨q, rfl, q9, ev2⟩
    simp
    exact ⟨ev.trans ev2, .many q, rfl, q9, Nat.le_refl _⟩
  · unfold pwR1
    simp [pwE]
    refine R.to (hT (m - 1) T1 r (n : Int) (by omega) ev.pn (by omega) (by omega)) ?_
    rintro d T2 ⟨p, rfl, p1, ev2, _⟩
    simp
    refine R.to (p99_ok (m := m - 1) (N := 5) (x := .str "ends") (o5 := none) (n := n) (ts := ts) hT (by omega) ev2.pn (by omega) (by omega)) ?_
    rintro d T3 ⟨q, rfl, q9, ev3⟩
    simp
    exact ⟨ev.trans (ev2.trans ev3), .ends p q, rfl, ⟨by omega, q9⟩, Nat.le_refl _⟩
  · unfold pwR1
    simp [pwE]
    refine R.to (tld_ok (m := m - 1) (x := .str "told") (o5 := none) (n := n) (ts := ts) hT (by omega) ev.pn Fm.l7) ?_
    rintro d T2 ⟨bo, rfl, lb, ev2⟩
    simp
    exact ⟨ev.trans ev2, .told bo, rfl, lb, Nat.le_refl _⟩
  · exact rest _ rfl (.inl rfl)
  · exact rest _ rfl (.inr (.inl rfl))
end
end Dv

namespace Dv
open PySem PySem.Spec PyProof.Rows L2 Df
noncomputable def nmD (iT : Nat) : Den := (dOp ixD (dLst (dCons (dC (.str "not")) (dCons (dC (.str "missing")) dNil))) (dCallF iT 2 (dCons (dVar 0) (dCons (dC (.int 2)) dNil))))
noncomputable def beD (iT : Nat) : Den := (dOp ixD (dLst (dCons (dC (.str "both")) (dCons (dC (.str "either")) (dCons (dC (.str "one")) dNil)))) (dCallF iT 2 (dCons (dVar 0) (dCons (dC (.int 3)) dNil))))
noncomputable def nwD (iT iW : Nat) : Den := (dTup (dCons (nmD iT) (dCons (dCallF iW 3 (dCons (dVar 0) (dCons (dVar 1) (dCons (dOp subD (dVar 2) (dC (.int 1))) dNil)))) dNil)))
noncomputable def wiR3 (iT iW : Nat) : DenS := (sSeq (sAsg (.nm 5) (dCallF iW 3 (dCons (dVar 0) (dCons (dVar 1) (dCons (dVar 4) dNil)))))
    (sRet (dTup (dCons (beD iT) (dCons (dVar 5) (dCons (dCallF iW 3 (dCons (dVar 0) (dCons (dVar 1) (dCons (dOp subD (dOp subD (dVar 2) (dC (.int 1))) (dVar 4)) dNil)))) dNil))))))
noncomputable def wiR2 (iT iW : Nat) : DenS := (sSeq (sAsg (.nm 4) (dOp addD (dC (.int 1)) (dCallF iT 2 (dCons (dVar 0) (dCons (dOp subD (dVar 2) (dC (.int 2))) dNil)))))
    (wiR3 iT iW))
noncomputable def wiR1 (iT iP iW : Nat) : DenS := (sSeq (sIf (dOrT (dBl (dOp ltD (dVar 2) (dC (.int 2)))) (dBl (dOp gtD (dVar 3) (dC (.int 5))))) (sRet (dCallF iP 2 (dCons (dVar 0) (dCons (dVar 1) dNil)))) sNil)
    (sSeq (sIf (dOrT (dBl (dOp ltD (dVar 2) (dC (.int 3)))) (dBl (dOp ltD (dVar 3) (dC (.int 2))))) (sRet (nwD iT iW)) sNil)
    (wiR2 iT iW)))
noncomputable def wiF (iT iP iW : Nat) : DenS := (sSeq (sAsg (.nm 3) (dCallF iT 2 (dCons (dVar 0) (dCons (dC (.int 8)) dNil))))
    (wiR1 iT iP iW))
section
variable {bs : Bodies} {K : O → Prop} {iT iP iW m r n : Nat} {ts : List D} {S : Sto}
def nmQ (K : O → Prop) (r : Nat) (S : Sto) (d : D) (T : Sto) : Prop := EvG K r S T ∧ (d = .str "not" ∨ d = .str "missing")
def beQ (K : O → Prop) (r : Nat) (S : Sto) (d : D) (T : Sto) : Prop := EvG K r S T ∧ (d = .str "both" ∨ d = .str "either" ∨ d = .str "one")
theorem nm_ok (hT : TakeOk bs iT K) (hm : 2 ≤ m) (hp : PnG K S r) {ρ : Dv.Env} : (nmD iT (Phi bs m) (some (.ref r) :: ρ) S).wp (nmQ K r S) noX := by
  have hr := hp.lt
  simp [nmD]
  refine pick_g hT hm (EvG.app hp _).pn at_a0 (by omega) rfl (by simp) (by simp) fun x hx T1 ev1 l1 => ?_
  simp only [List.mem_cons, List.not_mem_nil, or_false] at hx
  exact ⟨(EvG.app hp _).trans ev1, hx⟩
theorem be_ok (hT : TakeOk bs iT K) (hm : 2 ≤ m) (hp : PnG K S r) {ρ : Dv.Env} : (beD iT (Phi bs m) (some (.ref r) :: ρ) S).wp (beQ K r S) noX := by
  have hr := hp.lt
  simp [beD]
  refine pick_g hT hm (EvG.app hp _).pn at_a0 (by omega) rfl (by simp) (by simp) fun x hx T1 ev1 l1 => ?_
  simp only [List.mem_cons, List.not_mem_nil, or_false] at hx
  exact ⟨(EvG.app hp _).trans ev1, hx⟩
theorem wish_ok (hT : TakeOk bs iT K) (hP : bs[iP]? = some (pwF iT, 7)) (hW : bs[iW]? = some (wiF iT iP iW, 6)) (Fm : Frm n ts) : ∀ (N m : Nat) (S : Sto), 1 ≤ N → N ≤ 1000 → N + 3 ≤ m → PnG K S r → (Phi bs m 0 iW [.ref r, fr n ts, .int (N : Int)] S).wp (pwP K S r n ts N) noX := by
  intro N
  induction N using Nat.strongRecOn with
  | ind N ih =>
    intro m S N1 Nb hm hp
    refine wpP (by omega) hW ?_
    unfold wiF
    generalize hG : wiR1 iT iP iW = G
    simp
    refine R.to (hT (m - 1) S r 8 (by omega) hp (by omega) (by omega)) ?_
    rintro d T1 ⟨k, rfl, k1, ev1, l1⟩
    simp
    subst hG
    by_cases c1 : N < 2 ∨ 5 < k
    · have e : (decide (((N : Int) < 2)) || decide ((5 : Int) < (k : Int))) = true := by
        rw [Bool.or_eq_true, decide_eq_true_eq, decide_eq_true_eq]; omega
      have go : (Phi bs (m - 1) 0 iP [.ref r, fr n ts] T1).wp (pwP K S r n ts N) noX := R.to (pwish_ok hT hP (by omega) Fm ev1.pn) fun d T2 ⟨ev2, w, e1, e2, e3⟩ => ⟨ev1.trans ev2, w, e1, e2, by omega⟩
      unfold wiR1
      generalize hG : wiR2 iT iW = G
      by_cases c2 : (N : Int) < 2
      · simp [c2]
        exact R.to go fun d T2 h => by simpa using h
      · have c3 : (5 : Int) < (k : Int) := by omega
        simp [c2, c3]
        exact R.to go fun d T2 h => by simpa using h
    · have c2 : ¬ ((N : Int) < 2) := by omega
      have c3 : ¬ ((5 : Int) < (k : Int)) := by omega
      unfold wiR1
      generalize hG : wiR2 iT iW = G
      by_cases c4 : N < 3 ∨ k < 2
      · have go : (nwD iT iW (Phi bs (m - 1)) [some (.ref r), some (fr n ts), some (.int (N : Int)), some (.int (k : Int)), none, none] T1).wp (pwP K S r n ts N) noX := by
          unfold nwD
          simp
          refine R.to (nm_ok hT (by omega) ev1.pn) ?_
          rintro d T2 ⟨ev2, hd⟩
          simp
          rw [show (N : Int) - 1 = ((N - 1 : Nat) : Int) from by omega]
          refine R.to (ih (N - 1) (by omega) (m - 1) T2 (by omega) (by omega) (by omega) ev2.pn) ?_
          rintro d2 T3 ⟨ev3, w, rfl, ok, sz⟩
          simp
          refine ⟨ev1.trans (ev2.trans ev3), ?_⟩
          rcases hd with rfl | rfl
          · exact ⟨.neg w, rfl, ok, by simp only [W.sz]; omega⟩
          · exact ⟨.mis w, rfl, ok, by simp only [W.sz]; omega⟩
        by_cases c5 : (N : Int) < 3
        · simp [c2, c3, c5]
          exact R.to go fun d T2 h => by simpa using h
        · have c6 : (k : Int) < 2 := by omega
          simp [c2, c3, c5, c6]
          exact R.to go fun d T2 h => by simpa using h
      · have c5 : ¬ ((N : Int) < 3) := by omega
        have c6 : ¬ ((k : Int) < 2) := by omega
        simp [c2, c3, c5, c6]
        subst hG
        unfold wiR2
        generalize hG : wiR3 iT iW = G
        simp
        refine R.to (hT (m - 1) T1 r ((N : Int) - 2) (by omega) ev1.pn (by omega) (by omega)) ?_
        rintro d T2 ⟨j, rfl, j1, ev2, l2⟩
        simp
        subst hG
        unfold wiR3
        rw [show (1 : Int) + (j : Int) = ((1 + j : Nat) : Int) from by omega]
        simp
        rw [show (1 : Int) + (j : Int) = ((1 + j : Nat) : Int) from by omega]
        refine R.to (ih (1 + j) (by omega) (m - 1) T2 (by omega) (by omega) (by omega) ev2.pn) ?_
        rintro d2 T3 ⟨ev3, w1, rfl, ok1, sz1⟩
        simp
        refine R.to (be_ok hT (by omega) ev3.pn) ?_
        rintro d T4 ⟨ev4, hd⟩
        simp
        rw [show (N : Int) - 1 - (1 + (j : Int)) = ((N - 1 - (1 + j) : Nat) : Int) from by omega]
        refine R.to (ih (N - 1 - (1 + j)) (by omega) (m - 1) T4 (by omega) (by omega) (by omega) ev4.pn) ?_
        rintro d3 T5 ⟨ev5, w2, rfl, ok2, sz2⟩
        simp
        refine ⟨ev1.trans (ev2.trans (ev3.trans (ev4.trans ev5))), ?_⟩
        rcases hd with rfl | rfl | rfl
        · exact ⟨.both w1 w2, rfl, ⟨ok1, ok2⟩, by simp only [W.sz]; omega⟩
        · exact ⟨.either w1 w2, rfl, ⟨ok1, ok2⟩, by simp only [W.sz]; omega⟩
        · exact ⟨.one w1 w2, rfl, ⟨ok1, ok2⟩, by simp only [W.sz]; omega⟩
end
end Dv

namespace Dv
open PySem PySem.Spec PyProof.Rows L2 Df
/-! ### the table of a wish -/
section
variable {bs : Bodies} {iV iK iM iN iW iP iR iS iT iG iX iH i m n : Nat} {ts : List D} {S : Sto}
theorem wbs_L : wbs [.tup []] ts = wbL ts := wbs_num
/-! ### a table held against what is due -/
end
end Dv

/-! ### tuples and dicts of the module -/
namespace Dv
open PySem PySem.Spec PyProof.Rows L2 Gr
def ginD (ks : List (Str × Int)) : Op1
  | .str z, S => .ok (.bl (ks.lookup z).isSome) S
  | _, _ => .no
def gixD (ks : List (Str × Int)) : Op1
  | .str z, S => match ks.lookup z with
    | some i => .ok (.int i) S
    | none => .no
  | _, _ => .no
section
variable {X : Cx} {tabs : List Addr} {EX : EXT} {lv : Lv} {a b : Expr} {da : Den} {x : Str} {p pos : Pos} {ks : List (Str × Int)}
end
/-! meanings -/
section
variable {S : Sto} {ks : List (Str × Int)} {z : Str}
@[simp] theorem gin_s : ginD ks (.str z) S = .ok (.bl (ks.lookup z).isSome) S := id rfl
theorem gix_s {i : Int} (h : ks.lookup z = some i) : gixD ks (.str z) S = .ok (.int i) S := by
  unfold gixD
  simp only [h]
end
/-! they stand in the written part -/
inductive Ents : List (Str × Int) → List DictEntry → Prop where
  | nil : Ents [] []
  | cons {k : Str} {i h : Int} {t u : Tok} {ks : List (Str × Int)} {es : List DictEntry} (r : Ents ks es) : Ents ((k, i) :: ks) (⟨h, .str k t, .int i u⟩ :: es)
end Dv

namespace Dv
open PySem PySem.Spec PyProof.Rows L2 Gr PySem.MeetsSeq PySem.AutoSeq1
/-! ### xs.extend(t), t a tuple -/
def extTD : OpM
  | .ref i, [.tup ys], S => match S[i]? with
    | some (.lst true xs) => if xs.length + ys.length ≤ mx then .ok .non (S.set i (.lst true (xs ++ ys))) else .no
    | _ => .no
  | _, _, _ => .no
section
variable {X : Cx}
@[simp] theorem extT_r {S : Sto} {i : Nat} {xs ys : List D} (h : S[i]? = some (.lst true xs)) : extTD (.ref i) [.tup ys] S = if xs.length + ys.length ≤ mx then .ok .non (S.set i (.lst true (xs ++ ys))) else .no := by
  unfold extTD
  simp only [h]
end
end Dv

namespace Dv
open PySem PySem.Spec PyProof.Rows L2 Df
/-! ### what is a wish -/
noncomputable def coF (iW : Nat) : DenS := (sRet (dAndV (dCallF iW 1 (dCons (dVar 0) dNil)) (dChain (dC (.int 0)) (kLink leD (dVar 0) (kLast leD (dC (.int 99)))))))
noncomputable def itF (iV : Nat) : DenS := (sSeq (sIf (dOrT (dNotT (dTru (dIsi .tup (dVar 1)))) (dBl (dOp neD (dCl lenD (dCons (dVar 1) dNil)) (dCl lenD (dCons (dCallF iV 1 (dCons (dVar 0) dNil)) dNil))))) (sRet (dC (.bl false))) sNil)
    (sRet (dAb false (iVal (dVar 1)) (.nm 2) tYesD (dIsi .bl (dVar 2)) [2])))
noncomputable def w1F (iC iB : Nat) : DenS := (sSeq (sIf (dBl (dOp eqD (dVar 1) (dC (.str "many")))) (sRet (dCallF iC 1 (dCons (dVar 2) dNil))) sNil)
    (sRet (dAndV (dOp eqD (dVar 1) (dC (.str "told"))) (dCallF iB 2 (dCons (dVar 0) (dCons (dVar 2) dNil))))))
noncomputable def w2F (iK iP iC : Nat) : DenS := (sSeq (sIf (dBl (dOp eqD (dVar 1) (dC (.str "tie")))) (sRet (dCallF iK 2 (dCons (dVar 0) (dCons (dTup (dCons (dVar 2) (dCons (dVar 3) dNil))) dNil)))) sNil)
    (sSeq (sIf (dBl (dOp eqD (dVar 1) (dC (.str "way")))) (sRet (dAndV (dCallF iP 2 (dCons (dOp ixD (dVar 0) (dC (.int 0))) (dCons (dVar 2) dNil))) (dAndV (dCallF iP 2 (dCons (dOp ixD (dVar 0) (dC (.int 0))) (dCons (dVar 3) dNil))) (dOp ltD (dVar 2) (dVar 3))))) sNil)
    (sRet (dAndV (dOp eqD (dVar 1) (dC (.str "ends"))) (dAndV (dCallF iP 2 (dCons (dOp ixD (dVar 0) (dC (.int 0))) (dCons (dVar 2) dNil))) (dCallF iC 1 (dCons (dVar 3) dNil)))))))
noncomputable def swF (i1 i2 : Nat) : DenS := (sSeq (sIf (dBl (dOp eqD (dCl lenD (dCons (dVar 1) dNil)) (dC (.int 1)))) (sRet (dOp inD (dOp ixD (dVar 1) (dC (.int 0))) (dC (.tup ((["odd", "joined", "ring", "three", "hub", "lone", "sides"] : List Str).map D.str))))) sNil)
    (sSeq (sIf (dBl (dOp eqD (dCl lenD (dCons (dVar 1) dNil)) (dC (.int 2)))) (sRet (dCallF i1 3 (dCons (dVar 0) (dCons (dOp ixD (dVar 1) (dC (.int 0))) (dCons (dOp ixD (dVar 1) (dC (.int 1))) dNil))))) sNil)
    (sSeq (sIf (dBl (dOp eqD (dCl lenD (dCons (dVar 1) dNil)) (dC (.int 3)))) (sRet (dCallF i2 4 (dCons (dVar 0) (dCons (dOp ixD (dVar 1) (dC (.int 0))) (dCons (dOp ixD (dVar 1) (dC (.int 1))) (dCons (dOp ixD (dVar 1) (dC (.int 2))) dNil)))))) sNil)
    (sRet (dC (.bl false))))))
structure WishAt (bs : Bodies) (iW iP iQ iK iV iC iB i1 i2 iS : Nat) : Prop where
  w : bs[iW]? = some (wholeF, 1)
  p : bs[iP]? = some (placeF iW, 2)
  q : bs[iQ]? = some (pairF iP, 2)
  k : bs[iK]? = some (isTieF iQ, 2)
  v : bs[iV]? = some (websF, 4)
  c : bs[iC]? = some (coF iW, 1)
  b : bs[iB]? = some (itF iV, 3)
  o : bs[i1]? = some (w1F iC iB, 3)
  t : bs[i2]? = some (w2F iK iP iC, 4)
  s : bs[iS]? = some (swF i1 i2, 2)
section
variable {bs : Bodies} {iW iP iQ iK iV iC iB i1 i2 iS m n : Nat} {ts : List D} {S : Sto}
/-! ### the parts, one after another -/
end
end Dv

namespace Dv
open PySem PySem.Spec PyProof.Rows L2 Df
/-! _law_truths -/
section
variable {bs : Bodies} {K : O → Prop} {iT iA iB iW iP iL iR iS iF m n r : Nat} {ts : List D} {S : Sto}
end
end Dv

namespace Dv
open PySem PySem.Spec PyProof.Rows L2 Df
theorem range'_cons {c k : Nat} {x : D} {xs : List D} {g : Nat → D} (h : x :: xs = (List.range' c k).map g) : ∃ j, k = j + 1 ∧ x = g c ∧ xs = (List.range' (c + 1) j).map g := by
  cases k with
  | zero => simp at h
  | succ j =>
    rw [List.range'_succ, List.map_cons] at h
    injection h with h1 h2
    exact ⟨j, rfl, h1, h2⟩
/-- the last one -/
theorem at_last {xs : List D} {x : D} (h : xs[xs.length - 1]? = some x) : L2.atI xs (-1) = some x := by
  rcases List.eq_nil_or_concat xs with rfl | ⟨ys, y, rfl⟩
  · simp at h
  · rw [List.concat_eq_append] at h ⊢
    rw [L2.atI_last]
    simpa using h
end Dv

namespace Dv
open PySem PySem.Spec PyProof.Rows L2 Df
/-! ### a while whose condition makes new things -/
/-! ### lists of truths -/
/-! ### sums -/
/-! ### zip of two lists -/
/-! ### the first web that has just one of two wishes -/
noncomputable def fuB (iH : Nat) : DenS := (sIf (dBl (dOp neD (dCallF iH 3 (dCons (dVar 0) (dCons (dVar 1) (dCons (dVar 3) dNil)))) (dCallF iH 3 (dCons (dVar 0) (dCons (dVar 2) (dCons (dVar 3) dNil)))))) (sRet (dVar 3)) sNil)
noncomputable def fuF (iV iH : Nat) : DenS := (sSeq (sFor (iVal (dCallF iV 1 (dCons (dVar 0) dNil))) (.nm 3) (fuB iH)) (sRet (dC .non)))
noncomputable def fuN (n : Nat) (ts : List D) (w v : W) : Option Nat := (List.range (2 ^ ts.length)).find? fun k => decide (tr n ts w k ≠ tr n ts v k)
def wbO (ts : List D) : Option Nat → D
  | some k => .tup (wbK ts k)
  | none => .non
def fuP (S : Sto) (n : Nat) (ts : List D) (w v : W) (d : D) (T : Sto) : Prop := d = wbO ts (fuN n ts w v) ∧ Gw S T
noncomputable def fuJ (S : Sto) (n : Nat) (ts : List D) (w v : W) (xs : List D) (ρ : Dv.Env) (T : Sto) : Prop := ∃ (o3 : Option D) (c k : Nat), ρ = [some (fr n ts), some (wD w), some (wD v), o3] ∧ xs = (List.range' c k).map (fun k => .tup (wbK ts k)) ∧ c + k = 2 ^ ts.length ∧ fuN n ts w v = (List.range' c k).find? (fun k => decide (tr n ts w k ≠ tr n ts v k)) ∧ Gw S T
section
variable {bs : Bodies} {iV iK iM iN iW iP iR iS iT iG iX iH i m n : Nat} {ts : List D} {S : Sto}
theorem fu_ok (A : HasAt bs iK iM iN iW iP iR iS iT iG iX iH) (hI : bs[i]? = some (fuF iV iH, 4)) (Fm : Frm n ts) (hK : bs[iV]? = some (websF, 4)) {w v : W} (ok : w.ok n ts) (okv : v.ok n ts) (hm : w.sz + 9 ≤ m) (hmv : v.sz + 9 ≤ m) : (Phi bs m 0 i [fr n ts, wD w, wD v] S).wp (fuP S n ts w v) noX := by
  refine wpP (by omega) hI ?_
  have p7 : 2 ^ ts.length ≤ 2 ^ 7 := Nat.pow_le_pow_right (by omega) Fm.l7
  simp [fuF]
  refine R.to (webs_ok hK (by omega) Fm.l7) ?_
  rintro d T ⟨l, rfl, ll, hw, g⟩
  rw [wbs_L] at hw
  simp [hw]
  refine for_inv (fuJ T n ts w v) ?_ ?_ _ _ _ ?_
  · rintro x xs ρ V ⟨o3, c, k, rfl, e, ck, ef, gV⟩
    obtain ⟨j, rfl, rfl, rfl⟩ := range'_cons e
    refine ⟨gV.kp _ _ hw, _, rfl, ?_⟩
    simp [fuB]
    refine R.to (has_ok A Fm w _ c V ok (by omega) (by omega)) ?_
    rintro d V2 ⟨rfl, g2⟩
    simp
    refine R.to (has_ok A Fm v _ c V2 okv (by omega) (by omega)) ?_
    rintro d V3 ⟨rfl, g3⟩
    rw [List.range'_succ, List.find?_cons] at ef
    by_cases q : tr n ts w c = tr n ts v c
    · simp [q] at ef ⊢
      exact ⟨_, c + 1, j, rfl, rfl, by omega, by rw [ef]; congr 1; funext k; simp, (gV.trans g2).trans g3⟩
    · simp [q] at ef ⊢
      exact ⟨by rw [ef]; rfl, ((g.trans gV).trans g2).trans g3⟩
  · rintro ρ V ⟨o3, c, k, rfl, e, ck, ef, gV⟩
    have : k = 0 := by
      cases k with
      | zero => rfl
      | succ j => rw [List.range'_succ] at e; simp at e
    subst this
    refine ⟨gV.kp _ _ hw, ?_⟩
    simp at ef ⊢
    exact ⟨by rw [ef]; rfl, g.trans gV⟩
  · refine ⟨none, 0, 2 ^ ts.length, rfl, by rw [← List.range_eq_range']; rfl, by omega, ?_, Gw.refl⟩
    rw [← List.range_eq_range']
    rfl
end
/-! ### a comprehension over things of any sort -/
/-! ### how many parts -/
end Dv

namespace Dv
open PySem PySem.Spec PyProof.Rows L2 Df
/-! ### pens that refer to other things -/
/-- what is said of a pen hangs on what stands up to it -/
structure PenL (P : Sto → Nat → Prop) : Prop where
  lt : ∀ S r, P S r → r < S.length
  up : ∀ S T r, P S r → (∀ (j : Nat) o, j ≤ r → S[j]? = some o → T[j]? = some o) → P T r
structure EvP (P : Sto → Nat → Prop) (r : Nat) (S S' : Sto) : Prop where
  kp : ∀ (j : Nat) o, j ≠ r → S[j]? = some o → S'[j]? = some o
  pn : P S' r
  ln : S.length ≤ S'.length
section
variable {P : Sto → Nat → Prop} {r : Nat} {S S' T : Sto}
theorem EvP.refl (h : P S r) : EvP P r S S := ⟨fun _ _ _ e => e, h, Nat.le_refl _⟩
theorem EvP.trans {S1 S2 S3 : Sto} (a : EvP P r S1 S2) (b : EvP P r S2 S3) : EvP P r S1 S3 := ⟨fun j o n e => b.kp j o n (a.kp j o n e), b.pn, Nat.le_trans a.ln b.ln⟩
theorem Gw.evp (L : PenL P) (g : Gw S T) (h : P S r) : EvP P r S T := ⟨fun j o _ e => g.kp j o e, L.up S T r h fun j o _ e => g.kp j o e, g.ln⟩
theorem EvP.app (L : PenL P) (h : P S r) (T : Sto) : EvP P r S (S ++ T) := (Gw.app T).evp L h
theorem EvP.app' (L : PenL P) (h : EvP P r S S') (T : Sto) : EvP P r S (S' ++ T) := h.trans (EvP.app L h.pn T)
theorem EvP.gw (L : PenL P) (h : EvP P r S S') (g : Gw S' T) : EvP P r S T := h.trans (g.evp L h.pn)
theorem EvP.put (L : PenL P) {l : Nat} {o : O} (h : EvP P r S S') (hr : r < S.length) (hl : S.length ≤ l) : EvP P r S (S'.set l o) := by
  refine ⟨fun j o' n e => ?_, L.up S' _ r h.pn fun j o' hj e => ?_, by rw [List.length_set]; exact h.ln⟩
  · have := (List.getElem?_eq_some_iff.mp e).1
    rw [List.getElem?_set_ne (by omega)]
    exact h.kp j o' n e
  · rw [List.getElem?_set_ne (by omega)]
    exact e
end
/-! ### the pen with the script -/
section
variable {bs : Bodies} {m : Nat} {S : Sto}
end
end Dv

namespace Dv
open PySem PySem.Spec PyProof.Rows L2 Gr
/-! ### any(l), all(l) of a list of truths -/
def blsD : List D → Option (List Bool)
  | [] => some []
  | .bl b :: r => (blsD r).map (b :: ·)
  | _ => none
theorem blsD_of : ∀ bs : List Bool, blsD (bs.map D.bl) = some bs
  | [] => rfl
  | b :: bs => by rw [List.map_cons, blsD, blsD_of bs]; rfl
def tsO (f : List Bool → Bool) : Option O → Sto → R D
  | some (.lst _ xs), S => match blsD xs with
    | some bs => .ok (.bl (f bs)) S
    | none => .no
  | _, _ => .no
def tsD (f : List Bool → Bool) : OpN
  | [.ref i], S => tsO f S[i]? S
  | _, _ => .no
section
variable {X : Cx} {tabs : List Addr}
end
section
variable {X : Cx} {tabs : List Addr} {EX : EXT} {lv : Lv} {ra : DenA} {e : Expr} {es : List Expr} {p pos : Pos}
end
@[simp] theorem ts_r {f : List Bool → Bool} {i : Nat} {S : Sto} : tsD f [.ref i] S = tsO f S[i]? S := id rfl
@[simp] theorem tsO_l {f : List Bool → Bool} {w : Bool} {bs : List Bool} {S : Sto} : tsO f (some (.lst w (bs.map D.bl))) S = .ok (.bl (f bs)) S := by
  unfold tsO
  simp only [blsD_of]
/-! ### l.index(x), l.count(x), l.clear() -/
def clearD : OpM
  | .ref i, [], S => match S[i]? with
    | some (.lst true _) => .ok .non (S.set i (.lst true []))
    | _ => .no
  | _, _, _ => .no
section
variable {X : Cx} {tabs : List Addr}
end
/-! ### these at data -/
def clrO (i : Nat) : Option O → Sto → R D
  | some (.lst true _), S => .ok .non (S.set i (.lst true []))
  | _, _ => .no
@[simp] theorem clrO_l {i : Nat} {xs : List D} {S : Sto} : clrO i (some (.lst true xs)) S = .ok .non (S.set i (.lst true [])) := id rfl
@[simp] theorem clr_ref {i : Nat} {S : Sto} : clearD (.ref i) [] S = clrO i S[i]? S := by
  unfold clearD clrO
  dsimp only
  split <;> first | rfl | (rename_i h1; split <;> first | rfl | (rename_i h2; exact absurd h2 (by simp_all)))
end Dv

namespace Dv
open PySem PySem.Spec PyProof.Rows L2 Df
/-! ### == [] -/
/-! ### enumerate -/
@[simp] theorem ev_enu {a : DenA} {lv : Lv} {ρ : Dv.Env} {S : Sto} : iEnu a lv ρ S = (a lv ρ S).bind enK := id rfl
@[simp] theorem enK_t {xs : List D} {S : Sto} : enK [.tup xs] S = .ok (.enuT xs) S := id rfl
theorem enK_l {S : Sto} {i : Nat} {w : Bool} {xs : List D} (hi : S[i]? = some (.lst w xs)) : enK [.ref i] S = .ok (.enu i w xs) S := by
  unfold enK enuS
  simp only [hi]
  rfl
/-! ### frames drawn -/
section
variable {bs : Bodies} {P : Sto → Nat → Prop} {iT iF m r : Nat} {S : Sto}
end
end Dv

namespace Dv
open PySem PySem.Spec PyProof.Rows L2 Df
/-! ### plans -/
inductive Pl | fin (b : Bool) | ask (t : D) (y n : Pl)
def plD : Pl → D
  | .fin b => .tup [.str "end", .bl b]
  | .ask t y n => .tup [.str "ask", t, plD y, plD n]
def Pl.dp : Pl → Nat
  | .fin _ => 0
  | .ask _ y n => max y.dp n.dp + 1
def Pl.al (A : D → Prop) : Pl → Prop
  | .fin _ => True
  | .ask t y n => A t ∧ y.al A ∧ n.al A
@[simp] theorem at2' {x y z : D} {xs : List D} : L2.atI (x :: y :: z :: xs) 2 = some z := L2.atI_nat (j := 2) rfl
@[simp] theorem at3 {x y z u : D} {xs : List D} : L2.atI (x :: y :: z :: u :: xs) 3 = some u := L2.atI_nat (j := 3) rfl
theorem plD_at {p : Pl} : ∃ w xs, plD p = .tup (.str w :: xs) ∧ (w = Str.ofString "ask" ∨ w = Str.ofString "end") := by
  cases p with
  | fin b => exact ⟨_, _, rfl, .inr rfl⟩
  | ask t y n => exact ⟨_, _, rfl, .inl rfl⟩
@[simp] theorem w_end_ask : Str.ofString "end" = Str.ofString "ask" ↔ False := iff_false_intro (by decide +kernel)
@[simp] theorem w_ask_end : Str.ofString "ask" = Str.ofString "end" ↔ False := iff_false_intro (by decide +kernel)
/-! ### followed -/
section
variable {bs : Bodies} {m i : Nat} {S : Sto} {ws : List D} {p : Pl}
end
/-! ### the numbers that fit -/
/-- a number whose twos agree with what is known -/
def okK : List D → Nat → Bool
  | [], _ => true
  | k :: ks, q => (noB k || isB (decide (q % 2 = 1)) k) && okK ks (q / 2)
end Dv

namespace Dv
open PySem PySem.Spec PyProof.Rows L2 Gr
/-! ### max(l), min(l) of a list of ints -/
def pkI (f : Int → Int → Int) : List Int → Option Int
  | [] => none
  | n :: ns => some (ns.foldl f n)
def mxO (f : Int → Int → Int) : Option O → Sto → R D
  | some (.lst _ xs), S => match (intsD xs).bind (pkI f) with
    | some j => .ok (.int j) S
    | none => .no
  | _, _ => .no
def mxLD (f : Int → Int → Int) : OpN
  | [.ref i], S => mxO f S[i]? S
  | _, _ => .no
section
variable {X : Cx} {tabs : List Addr}
variable {EX : EXT} {lv : Lv} {ra : DenA} {e : Expr} {es : List Expr} {p pos : Pos}
end
@[simp] theorem mx_r {f : Int → Int → Int} {i : Nat} {S : Sto} : mxLD f [.ref i] S = mxO f S[i]? S := id rfl
theorem mxO_l {f : Int → Int → Int} {w : Bool} {n : Int} {ns : List Int} {S : Sto} : mxO f (some (.lst w ((n :: ns).map D.int))) S = .ok (.int (ns.foldl f n)) S := by
  unfold mxO
  simp only [intsD_of, Option.bind_some, pkI]
end Dv

namespace Dv
open PySem PySem.Spec PyProof.Rows L2 Gr
/-! ### l[i] op= e, of a list -/
def ixL : Op2 := fun x y S => match x with
  | .ref i => ixD (.ref i) y S
  | _ => .no
@[simp] theorem ixL_r {i : Nat} {y : D} {S : Sto} : ixL (.ref i) y S = ixD (.ref i) y S := id rfl
def sAugI (o i : Den) (op : Op2) (e : Den) : DenS := fun lv ρ S => (o lv ρ S).bindS ρ fun x S1 => (i lv ρ S1).bindS ρ fun y S2 => (quiet (ixL x y S2)).bindS ρ fun z S3 => (e lv ρ S3).bindS ρ fun v S4 => (quiet (op z v S4)).bindS ρ fun u S5 => (setD x y u S5).bindS ρ fun _ S6 => .ok (.nx ρ) S6
section
variable {X : Cx} {EX : EXT} {lv : Lv} {tabs : List Addr} {o i e : Expr} {dox di de : Den} {op : Operator} {oo : Op2} {tpos pos : Pos}
end
end Dv

namespace Dv
open PySem PySem.Spec PyProof.Rows L2 Gr
/-! ### l[a::s], of a list -/
section
variable {K : PySem.W.Frag} {ι : List Addr} {H : Hp}
end
section
variable {X : Cx} {e : Expr} {te : TE} {k : Nat} {p1 p3 pos : Pos} {loE : Option Expr} {lo : Option Int} {st : Int}
variable {EX : EXT} {lv : Lv} {tabs : List Addr} {de : Den}
end
end Dv

namespace Dv
open PySem PySem.Spec PyProof.Rows L2 Df
/-! ### l[i] op= e at data -/
section
variable {S : Sto} {lv : Lv} {ρ : Dv.Env}
def agK4 (x y : D) (ρ : Dv.Env) : D → Sto → R Fl := fun u S => (setD x y u S).bindS ρ (suK4 ρ)
@[simp] theorem agK4_ap {x y u : D} : agK4 x y ρ u S = (setD x y u S).bindS ρ (suK4 ρ) := id rfl
def agK3 (op : Op2) (z x y : D) (ρ : Dv.Env) : D → Sto → R Fl := fun v S => (quiet (op z v S)).bindS ρ (agK4 x y ρ)
@[simp] theorem agK3_ap {op : Op2} {z x y v : D} : agK3 op z x y ρ v S = (quiet (op z v S)).bindS ρ (agK4 x y ρ) := id rfl
def agK2 (e : Den) (op : Op2) (lv : Lv) (ρ : Dv.Env) (x y : D) : D → Sto → R Fl := fun z S => (e lv ρ S).bindS ρ (agK3 op z x y ρ)
@[simp] theorem agK2_ap {e : Den} {op : Op2} {x y z : D} : agK2 e op lv ρ x y z S = (e lv ρ S).bindS ρ (agK3 op z x y ρ) := id rfl
def agK1 (e : Den) (op : Op2) (lv : Lv) (ρ : Dv.Env) (x : D) : D → Sto → R Fl := fun y S => (quiet (ixL x y S)).bindS ρ (agK2 e op lv ρ x y)
@[simp] theorem agK1_ap {e : Den} {op : Op2} {x y : D} : agK1 e op lv ρ x y S = (quiet (ixL x y S)).bindS ρ (agK2 e op lv ρ x y) := id rfl
def agK0 (i e : Den) (op : Op2) (lv : Lv) (ρ : Dv.Env) : D → Sto → R Fl := fun x S => (i lv ρ S).bindS ρ (agK1 e op lv ρ x)
@[simp] theorem agK0_ap {i e : Den} {op : Op2} {x : D} : agK0 i e op lv ρ x S = (i lv ρ S).bindS ρ (agK1 e op lv ρ x) := id rfl
@[simp] theorem ev_augI {o i e : Den} {op : Op2} : sAugI o i op e lv ρ S = (o lv ρ S).bindS ρ (agK0 i e op lv ρ) := id rfl
end
theorem setO_at {S : Sto} {i : Nat} {xs : List D} {k : Nat} {v : D} (h : k < xs.length) : setO i (some (.lst true xs)) (k : Int) v S = .ok () (S.set i (.lst true (xs.set k v))) := by
  unfold setO
  have : L2.ixN xs.length (k : Int) = some k := by
    unfold L2.ixN
    rw [if_pos (by omega)]
    simp
    omega
  simp only [this]
/-! ### how many webs with so many ties -/
section
variable {bs : Bodies} {m i n iV iT : Nat} {ts : List D} {S : Sto} {f : Nat → Bool}
variable {iK iM iN iW iP iR iS iT' iG iX iH : Nat}
end
end Dv

namespace Dv
open PySem PySem.Spec PyProof.Rows L2 Df
/-! ### what is known, drawn -/
def goodL (ks : List D) (N : Nat) : List Nat := (List.range N).filter (okK ks)
section
variable {bs : Bodies} {P : Sto → Nat → Prop} {iT m r i n : Nat} {S : Sto} {ts ks : List D}
end
end Dv

namespace Dv
open PySem PySem.Spec PyProof.Rows L2 Df
/-! ### the first web of which the plan tells the other truth -/
def tabL (ts : List D) (f : Nat → Bool) : List D := (List.range (2 ^ ts.length)).map fun k => .bl (f k)
section
variable {bs : Bodies} {m i n : Nat} {S : Sto} {ts ks : List D}
end
end Dv

namespace Dv
open PySem PySem.Spec PyProof.Rows L2 Df
/-! ### wishes drawn, of some words -/
section
variable {bs : Bodies} {P : Sto → Nat → Prop} {iT iW m r n : Nat} {ts : List D} {S : Sto}
end
end Dv

namespace Dv
open PySem PySem.Spec PyProof.Rows L2 Df
/-! ### which webs have a wish, by the law -/
section
variable {bs : Bodies} {m n iY iO k : Nat} {ts : List D} {S : Sto}
end
end Dv

namespace Dv
open PySem PySem.Spec PyProof.Rows L2 Df
/-! ### plans drawn -/
theorem Pl.al.imp {A B : D → Prop} (h : ∀ t, A t → B t) : ∀ {p : Pl}, p.al A → p.al B
  | .fin _, _ => trivial
  | .ask _ _ _, ⟨a, y, n⟩ => ⟨h _ a, Pl.al.imp h y, Pl.al.imp h n⟩
section
variable {bs : Bodies} {P : Sto → Nat → Prop} {iT iP iL m r n : Nat} {ts : List D} {S : Sto}
/-! ### an end turned about -/
end
end Dv

namespace Dv
open PySem PySem.Spec PyProof.Rows L2 Df
/-! ### a plan that tells a wish, drawn -/
theorem AllK.set {ks : List D} (h : AllK ks) {i : Nat} {b : Bool} : AllK (ks.set i (.bl b)) := fun x hx => by
  rcases List.mem_or_eq_of_mem_set hx with z | z
  · exact h x z
  · exact .inr ⟨b, z⟩
section
variable {bs : Bodies} {P : Sto → Nat → Prop} {iT iP m r : Nat} {ts : List D} {S : Sto}
/-- where the def stands -/
structure RpAt (S : Sto) (r a b t : Nat) (us : List Nat) (ks : List D) (ts : List D) (f : Nat → Bool) : Prop where
  ha : S[a]? = some (.lst true (us.map iD))
  hb : S[b]? = some (.lst true ((goodL ks (2 ^ ts.length)).map iD))
  ht : ∃ w, S[t]? = some (.lst w (tabL ts f))
  ne : a ≠ r ∧ b ≠ r ∧ t ≠ r
theorem RpAt.ev {S T : Sto} {a b t : Nat} {us : List Nat} {ks : List D} {f : Nat → Bool} (h : RpAt S r a b t us ks ts f) (e : EvP P r S T) : RpAt T r a b t us ks ts f :=
  ⟨e.kp _ _ h.ne.1 h.ha, e.kp _ _ h.ne.2.1 h.hb, by obtain ⟨w, h1⟩ := h.ht; exact ⟨w, e.kp _ _ h.ne.2.2 h1⟩, h.ne⟩
theorem RpAt.up {S T : Sto} {a b t : Nat} {us : List Nat} {ks : List D} {f : Nat → Bool} (h : RpAt S r a b t us ks ts f) (e : Gw S T) : RpAt T r a b t us ks ts f :=
  ⟨e.kp _ _ h.ha, e.kp _ _ h.hb, by obtain ⟨w, h1⟩ := h.ht; exact ⟨w, e.kp _ _ h1⟩, h.ne⟩
end
end Dv

namespace Dv
open PySem PySem.Spec PyProof.Rows L2 Df
/-! ### plans and known things shown -/
theorem gw_any (U : Sto) : Gw [] U := ⟨by simp, by simp⟩
theorem rep_all {d : D} {f k w : Nat} (h : Tng [] false f k w d) (h1 : f ≤ 1000) (h2 : k ≤ 60) (h3 : w ≤ 100000) : ∃ x : Str, ∀ T : Sto, repO (toR T 1000 d) T = .ok (.str x) T := by
  obtain ⟨x, e⟩ := repr_eq h h1 h2 h3
  exact ⟨x, fun T => by have := e T (gw_any T); rwa [repr_1] at this⟩
section
variable {S : Sto} {n : Nat} {ts ks : List D}
theorem tie_tng {y : D} (n8 : n ≤ 8) (h : isTie (n : Int) y = true) : Tng S false 4 1 202 y := by
  obtain ⟨a, b, rfl, l1, l2⟩ := tie_sh h
  exact ((TngL.cons ((int_small (S := S) (i := a) (by omega)).up (show 1 ≤ 2 by omega) (Nat.le_refl 0) (Nat.le_refl _)) (TngL.one (int_small (i := b) (by omega)))).tup).up (by omega) (by omega) (by omega)
theorem web_tng {ws : List D} (n8 : n ≤ 8) (h : ∀ y ∈ ws, isTie (n : Int) y = true) (hl : ws.length ≤ 7) : Tng S false 12 2 1421 (.tup ws) :=
  (TngL.all (fun y hy => tie_tng n8 (h y hy)) hl).tup.up (by omega) (by omega) (by omega)
end
theorem wbO_rep {n : Nat} {ts : List D} (Fm : Frm n ts) (o : Option Nat) : ∃ x : Str, ∀ T : Sto, repO (toR T 1000 (wbO ts o)) T = .ok (.str x) T := by
  cases o with
  | none => exact rep_all (d := .non) Tng.non (by omega) (by omega) (by omega)
  | some k => exact rep_all (web_tng (S := []) Fm.n8 (fun y hy => Fm.it y (wbK_mem hy)) (Nat.le_trans wbK_len Fm.l7)) (by omega) (by omega) (by omega)
end Dv

namespace Kj
open PySem PySem.Spec PyProof.Rows L2 Dv Df
theorem A : HasAt bodies 1 2 3 4 5 6 7 8 9 10 11 := ⟨rfl, rfl, rfl, rfl, rfl, rfl, rfl, rfl, rfl, rfl, rfl⟩
theorem ws_is : bodies[0]? = some (websF, 4) := rfl
theorem fu_is : bodies[12]? = some (fuF 0 11, 4) := rfl
theorem pen_is : bodies[13]? = some (pen3F, 3) := rfl
theorem take_is : bodies[14]? = some (take3F, 4) := rfl
theorem frame_is : bodies[15]? = some (f10F 14, 9) := rfl
theorem webs_is : bodies[16]? = some (lwF, 5) := rfl
theorem re_is : bodies[17]? = some (reF, 5) := rfl
theorem ts_is : bodies[18]? = some (tsF 17, 6) := rfl
theorem fa_is : bodies[19]? = some (faF 17 18, 11) := rfl
theorem pl_is : bodies[20]? = some (plF, 3) := rfl
theorem af_is : bodies[21]? = some (afF 16 19, 2) := rfl
theorem tb_is : bodies[22]? = some (tbF 20 22, 8) := rfl
theorem pw_is : bodies[23]? = some (pwF 14, 7) := rfl
theorem wi_is : bodies[24]? = some (wiF 14 23 24, 6) := rfl
theorem tk : TakeOk bodies 14 K3 := take3_ok take_is
/-! _law_beside -/
noncomputable def bsB1R2 : DenS := (sExpr (dMt appendD (dVar 4) (dCons (dTup (dCons (dC (.str "told")) (dCons (dCl tupleD (dCons (dVar 5) dNil)) dNil))) dNil)))
noncomputable def bsB1R1 : DenS := (sSeq (sSub (dVar 5) (dVar 7) (dUn notD (dOp ixD (dVar 5) (dVar 7)))) bsB1R2)
noncomputable def bsB1 : DenS := (sSeq (sAsg (.nm 7) (dCallF 14 2 (dCons (dVar 0) (dCons (dCl lenD (dCons (dVar 5) dNil)) dNil)))) bsB1R1)
noncomputable def bsR6 : DenS := (sRet (dOp addD (dVar 4) (dLst (dCons (dTup (dCons (dC (.str "told")) (dCons (dCl tupleD (dCons (dVar 8) dNil)) dNil))) (dCons (dCallF 24 3 (dCons (dVar 0) (dCons (dVar 1) (dCons (dC (.int 3)) dNil)))) (dCons (dTup (dCons (dC (.str "one")) (dCons (dVar 2) (dCons (dVar 2) dNil)))) dNil))))))
noncomputable def bsR5 : DenS := (sSeq (sAsg (.nm 8) (dOp addD (dSl (dVar 3) none (some (dUn negD (dC (.int 1))))) (dLst (dCons (dUn notD (dOp ixD (dVar 3) (dUn negD (dC (.int 1))))) dNil)))) bsR6)
noncomputable def bsR4 : DenS := (sSeq (sFor (iRange1 (dCons (dC (.int 2)) dNil)) (.nm 6) bsB1) bsR5)
noncomputable def bsR3 : DenS := (sSeq (sAsg (.nm 5) (dCl listD (dCons (dVar 3) dNil))) bsR4)
noncomputable def bsR2 : DenS := (sSeq (sExpr (dMt appendD (dVar 4) (dCons (dTup (dCons (dC (.str "told")) (dCons (dCl tupleD (dCons (dVar 3) dNil)) dNil))) dNil))) bsR3)
noncomputable def bsR1 : DenS := (sSeq (sExpr (dMt appendD (dVar 4) (dCons (dTup (dCons (dC (.str "not")) (dCons (dTup (dCons (dC (.str "both")) (dCons (dTup (dCons (dC (.str "not")) (dCons (dVar 2) dNil))) (dCons (dTup (dCons (dC (.str "not")) (dCons (dVar 2) dNil))) dNil)))) dNil))) dNil))) bsR2)
noncomputable def bsF : DenS := (sSeq (sAsg (.nm 4) (dLst (dCons (dVar 2) (dCons (dTup (dCons (dC (.str "not")) (dCons (dTup (dCons (dC (.str "not")) (dCons (dVar 2) dNil))) dNil))) (dCons (dTup (dCons (dC (.str "missing")) (dCons (dTup (dCons (dC (.str "missing")) (dCons (dVar 2) dNil))) dNil))) (dCons (dTup (dCons (dC (.str "not")) (dCons (dVar 2) dNil))) dNil)))))) bsR1)
theorem bs_is : bodies[25]? = some (bsF, 9) := rfl
/-! law -/
noncomputable def lB1B1R5 : DenS := (sIf (dBl (dOp neD (dCl reprD (dCons (dTup (dCons (dVar 3) (dCons (dVar 6) (dCons (dVar 8) dNil)))) dNil)) (dVar 11))) (sRet (dC (.bl false))) sNil)
noncomputable def lB1B1R4 : DenS := (sSeq (sIf (dOrT (dBl (dOp neD (dCl reprD (dCons (dVar 12) dNil)) (dCl reprD (dCons (dVar 10) dNil)))) (dBl (dOp neD (dCl reprD (dCons (dCallF 12 3 (dCons (dVar 3) (dCons (dVar 8) (dCons (dVar 6) dNil)))) dNil)) (dCl reprD (dCons (dVar 10) dNil))))) (sRet (dC (.bl false))) sNil) lB1B1R5)
noncomputable def lB1B1R3 : DenS := (sSeq (sAsg (.nm 12) (dCallF 12 3 (dCons (dVar 3) (dCons (dVar 6) (dCons (dVar 8) dNil))))) lB1B1R4)
noncomputable def lB1B1R2 : DenS := (sSeq (sAsg (.nm 11) (dCl reprD (dCons (dTup (dCons (dVar 3) (dCons (dVar 6) (dCons (dVar 8) dNil)))) dNil))) lB1B1R3)
noncomputable def lB1B1R1 : DenS := (sSeq (sAsg (.nm 10) (dOp ixD (dOp addD (dLc (iVal (dVar 9)) (.tp [13, 14, 15]) (dBl (dOp neD (dVar 14) (dVar 15))) (dVar 13) [13, 14, 15]) (dLst (dCons (dC .non) dNil))) (dC (.int 0)))) lB1B1R2)
noncomputable def lB1B1 : DenS := (sSeq (sAsg (.nm 9) (dLZ3 (dCons (dVar 4) (dCons (dVar 7) (dCons (dCallF 22 2 (dCons (dVar 5) (dCons (dVar 8) dNil))) dNil))))) lB1B1R1)
noncomputable def lB1R6 : DenS := (sFor (iVal (dCallF 25 4 (dCons (dVar 2) (dCons (dVar 3) (dCons (dVar 6) (dCons (dVar 7) dNil)))))) (.nm 8) lB1B1)
noncomputable def lB1R5 : DenS := (sSeq (sAsg (.nm 7) (dCallF 22 2 (dCons (dVar 5) (dCons (dVar 6) dNil)))) lB1R6)
noncomputable def lB1R4 : DenS := (sSeq (sAsg (.nm 6) (dCallF 24 3 (dCons (dVar 2) (dCons (dVar 3) (dCons (dC (.int 4)) dNil))))) lB1R5)
noncomputable def lB1R3 : DenS := (sSeq (sAsg (.nm 5) (dCallF 21 1 (dCons (dVar 3) dNil))) lB1R4)
noncomputable def lB1R2 : DenS := (sSeq (sAsg (.nm 4) (dCallF 16 1 (dCons (dVar 3) dNil))) lB1R3)
noncomputable def lB1R1 : DenS := (sSeq (sAsg (.nm 3) (dCallF 15 2 (dCons (dVar 2) (dCons (dOp ixD (dLst (dCons (dC (.int 4)) (dCons (dC (.int 5)) (dCons (dC (.int 3)) (dCons (dC (.int 5)) (dCons (dC (.int 4)) (dCons (dC (.int 2)) (dCons (dC (.int 7)) (dCons (dC (.int 6)) dNil))))))))) (dCallF 14 2 (dCons (dVar 2) (dCons (dC (.int 8)) dNil)))) dNil)))) lB1R2)
noncomputable def lB1 : DenS := (sSeq (sAsg (.nm 2) (dCallF 13 2 (dCons (dVar 0) (dCons (dVar 1) dNil)))) lB1R1)
noncomputable def lR1 : DenS := (sRet (dC (.bl true)))
noncomputable def lF : DenS := (sSeq (sFor (iRange1 (dCons (dCl maxD (dCons (dC (.int 2)) (dCons (dCl minD (dCons (dC (.int 3)) (dCons (dCl lenD (dCons (dVar 0) dNil)) dNil))) dNil))) dNil)) (.nm 1) lB1) lR1)
theorem l_is : bodies[26]? = some (lF, 16) := rfl
def yes (d : D) (_ : Sto) : Prop := d = .bl true
theorem any (U : Sto) : Gw [] U := ⟨by simp, by simp⟩
section
variable {m n : Nat} {ts : List D} {ns : List Int} {b : Bool} {S : Sto}
/-! wishes beside one -/
theorem cut_last {bo : List Bool} (h : 0 < bo.length) : Dv.cutD (bo.map D.bl) none (some (-1)) = (bo.take (bo.length - 1)).map D.bl := by
  unfold Dv.cutD
  have e1 : HT.sIx (bo.map D.bl).length 0 none = 0 := rfl
  have e2 : HT.sIx (bo.map D.bl).length (bo.map D.bl).length (some (-1)) = bo.length - 1 := by
    unfold HT.sIx
    simp only [List.length_map]
    rw [if_pos (by omega)]
    omega
  rw [e1, e2, List.drop_zero, List.map_take]; rfl

def bsQ (S : Sto) (r n : Nat) (ts : List D) (d : D) (T : Sto) : Prop := ∃ (p : Nat) (ws : List W), d = .ref p ∧ S.length ≤ p ∧ T[p]? = some (.lst true (ws.map wD)) ∧ (∀ v ∈ ws, v.ok n ts ∧ v.sz ≤ 12) ∧ EvG K3 r S T
def bE (r l p q n : Nat) (ts : List D) (w : W) (o6 o7 : Option D) : Dv.Env := [some (.ref r), some (fr n ts), some (wD w), some (.ref l), some (.ref p), some (.ref q), o6, o7, none]
structure bT (S0 : Sto) (c r l p q n : Nat) (ts : List D) (bo : List Bool) (T : Sto) : Prop where
  ev : EvG K3 r S0 T
  tl : T[l]? = some (.lst true (bo.map D.bl))
  tp : ∃ ws : List W, T[p]? = some (.lst true (ws.map wD)) ∧ (∀ v ∈ ws, v.ok n ts ∧ v.sz ≤ 12) ∧ ws.length ≤ c
  tq : ∃ bs : List Bool, T[q]? = some (.lst true (bs.map D.bl)) ∧ bs.length = bo.length
def bJ (S0 : Sto) (r l p q n : Nat) (ts : List D) (w : W) (bo : List Bool) (xs : List D) (ρ : Dv.Env) (T : Sto) : Prop := (∃ o6 o7, ρ = bE r l p q n ts w o6 o7) ∧ ∃ c, c + xs.length = 20 ∧ bT S0 c r l p q n ts bo T
theorem bsB1_ok {F : DenS} (hF : F = bsB1) (hm : 20 ≤ m) {S0 : Sto} {r l p q : Nat} {w : W} {bo : List Bool} (hb : bo.length = 2 ^ ts.length) (l7 : ts.length ≤ 7) (hr : r < S0.length) (lr : l ≠ r) (lS : l < S0.length) (hp : S0.length ≤ p) (hq : S0.length ≤ q) (pq : p ≠ q) {o6 o7 : Option D} {c : Nat} (c20 : c ≤ 100) (hT : bT S0 c r l p q n ts bo S) {J : Dv.Env → Sto → Prop} {Q : Fl → Sto → Prop}
    (hJ : ∀ o6 o7 T, bT S0 (c + 1) r l p q n ts bo T → J (bE r l p q n ts w o6 o7) T) :
    (F (Phi bodies m) (bE r l p q n ts w o6 o7) S).wp (forQ J Q) noX := by
  subst hF
  have p7 : 2 ^ ts.length ≤ 2 ^ 7 := Nat.pow_le_pow_right (by omega) l7
  have p0 := Nat.pos_of_ne_zero (show 2 ^ ts.length ≠ 0 by simp)
  obtain ⟨ev, tl, ⟨ws, tp, okw, lw⟩, ⟨bs, tq, lb⟩⟩ := hT
  unfold bsB1 bE
  generalize hG : bsB1R1 = G
  simp [tq]
  refine R.to (tk m S r (bs.length : Int) (by omega) ev.pn (by omega) (by omega)) ?_
  rintro d T ⟨j, rfl, jl, ev2, _⟩
  have jl : j < bs.length := by omega
  have tl2 := ev2.kp _ _ lr tl
  have tp2 := ev2.kp _ _ (by omega) tp
  have tq2 := ev2.kp _ _ (by omega) tq
  have at_ : L2.atI (bs.map D.bl) (j : Int) = some (.bl bs[j]) := L2.atI_nat (by rw [List.getElem?_map, List.getElem?_eq_getElem jl]; rfl)
  simp
  subst hG
  unfold bsB1R1
  generalize hG : bsB1R2 = G
  simp [tq2, at_]
  rw [setO_at (by simpa using jl)]
  have e5 : (bs.map D.bl).set j (.bl !bs[j]) = (bs.set j !bs[j]).map D.bl := by rw [List.map_set]
  have lb2 : (bs.set j !bs[j]).length = bo.length := by simp [lb]
  rw [e5]
  generalize (bs.set j (!bs[j])) = bs2 at lb2 ⊢
  simp
  have ltq := (List.getElem?_eq_some_iff.mp tq2).1
  have ev3 := (ev.trans ev2).put (o := .lst true (bs2.map D.bl)) hr hq
  have tl3 : (T.set q (.lst true (bs2.map D.bl)))[l]? = some (.lst true (bo.map D.bl)) := by rw [List.getElem?_set_ne (by omega)]; exact tl2
  have tp3 : (T.set q (.lst true (bs2.map D.bl)))[p]? = some (.lst true (ws.map wD)) := by rw [List.getElem?_set_ne (Ne.symm pq)]; exact tp2
  have tq3 : (T.set q (.lst true (bs2.map D.bl)))[q]? = some (.lst true (bs2.map D.bl)) := List.getElem?_set_self ltq
  generalize T.set q (.lst true (bs2.map D.bl)) = T3 at ev3 tl3 tp3 tq3 ⊢
  subst hG
  unfold bsB1R2
  simp [tq3, tp3]
  refine ⟨by omega, mx_small (by omega), ?_⟩
  have e6 : ws.map wD ++ [D.tup [D.str (Str.ofString "told"), D.tup (bs2.map D.bl)]] = (ws ++ [W.told bs2]).map wD := by rw [List.map_append]; rfl
  rw [e6]
  have ltp := (List.getElem?_eq_some_iff.mp tp3).1
  refine hJ _ _ _ ⟨ev3.put hr hp, ?_, ⟨ws ++ [W.told bs2], List.getElem?_set_self ltp, fun v hv => ?_, ?_⟩, ⟨bs2, ?_, lb2⟩⟩
  · rw [List.getElem?_set_ne (by omega)]; exact tl3
  · rcases List.mem_append.mp hv with h | h
    · exact okw v h
    · rw [List.mem_singleton.mp h]
      exact ⟨by show bs2.length = _; omega, by simp [W.sz]⟩
  · simp; omega
  · rw [List.getElem?_set_ne pq]; exact tq3
theorem bs_ok (hm : 24 ≤ m) (Fm : Frm n ts) {w : W} (ok : w.ok n ts) (sz : w.sz ≤ 4) {r l : Nat} {bo : List Bool} (hb : bo.length = 2 ^ ts.length) (hl : S[l]? = some (.lst true (bo.map D.bl))) (lr : l ≠ r) (hp : PnG K3 S r) : (Phi bodies m 0 25 [.ref r, fr n ts, wD w, .ref l] S).wp (bsQ S r n ts) noX := by
  have hr := hp.lt
  have l7 := Fm.l7
  have lS := (List.getElem?_eq_some_iff.mp hl).1
  have p7 : 2 ^ ts.length ≤ 2 ^ 7 := Nat.pow_le_pow_right (by omega) l7
  have p0 := Nat.pos_of_ne_zero (show 2 ^ ts.length ≠ 0 by simp)
  have okn : (W.neg w).ok n ts := ok
  refine wpP (by omega) bs_is ?_
  unfold bsF
  generalize hG : bsR1 = G
  simp
  have e1 : [wD w, D.tup [D.str (Str.ofString "not"), D.tup [D.str (Str.ofString "not"), wD w]], D.tup [D.str (Str.ofString "missing"), D.tup [D.str (Str.ofString "missing"), wD w]], D.tup [D.str (Str.ofString "not"), wD w]] = ([w, W.neg (W.neg w), W.mis (W.mis w), W.neg w] : List W).map wD := rfl
  rw [e1]
  have ok1 : ∀ v ∈ ([w, W.neg (W.neg w), W.mis (W.mis w), W.neg w] : List W), v.ok n ts ∧ v.sz ≤ 12 := fun v hv => by
    simp only [List.mem_cons, List.not_mem_nil, or_false] at hv
    rcases hv with rfl | rfl | rfl | rfl
    · exact ⟨ok, by omega⟩
    · exact ⟨ok, by simp [W.sz]; omega⟩
    · exact ⟨ok, by simp [W.sz]; omega⟩
    · exact ⟨ok, by simp [W.sz]; omega⟩
  have ln1 : ([w, W.neg (W.neg w), W.mis (W.mis w), W.neg w] : List W).length = 4 := rfl
  generalize ([w, W.neg (W.neg w), W.mis (W.mis w), W.neg w] : List W) = ws at ok1 ln1 ⊢
  have g1 : Gw S (S ++ [O.lst true (ws.map wD)]) := Gw.app _
  have p1 : (S ++ [O.lst true (ws.map wD)])[S.length]? = some (.lst true (ws.map wD)) := at_a0
  have q1 : (S ++ [O.lst true (ws.map wD)]).length = S.length + 1 := by simp
  generalize S ++ [O.lst true (ws.map wD)] = T1 at g1 p1 q1 ⊢
  subst hG
  unfold bsR1
  generalize hG : bsR2 = G
  simp [p1]
  refine ⟨mx_small (by omega), ?_⟩
  have e2 : ws.map wD ++ [D.tup [D.str (Str.ofString "not"), D.tup [D.str (Str.ofString "both"), D.tup [D.str (Str.ofString "not"), wD w], D.tup [D.str (Str.ofString "not"), wD w]]]] = (ws ++ [W.neg (W.both (W.neg w) (W.neg w))]).map wD := by rw [List.map_append]; rfl
  rw [e2]
  have ok2 : ∀ v ∈ ws ++ [W.neg (W.both (W.neg w) (W.neg w))], v.ok n ts ∧ v.sz ≤ 12 := fun v hv => by
    rcases List.mem_append.mp hv with h | h
    · exact ok1 v h
    · rw [List.mem_singleton.mp h]
      exact ⟨⟨ok, ok⟩, by simp [W.sz]; omega⟩
  have ln2 : (ws ++ [W.neg (W.both (W.neg w) (W.neg w))]).length = 5 := by simp [ln1]
  generalize ws ++ [W.neg (W.both (W.neg w) (W.neg w))] = ws2 at ok2 ln2 ⊢
  have g2 := g1.put (l := S.length) (o := .lst true (ws2.map wD)) (Nat.le_refl _)
  have p2 : (T1.set S.length (.lst true (ws2.map wD)))[S.length]? = some (.lst true (ws2.map wD)) := List.getElem?_set_self (by omega)
  have q2 : (T1.set S.length (.lst true (ws2.map wD))).length = S.length + 1 := by simp [q1]
  generalize T1.set S.length (.lst true (ws2.map wD)) = T2 at g2 p2 q2 ⊢
  subst hG
  unfold bsR2
  generalize hG : bsR3 = G
  have hl2 := g2.kp _ _ hl
  simp [p2, hl2]
  refine ⟨by omega, mx_small (by omega), ?_⟩
  have e3 : ws2.map wD ++ [D.tup [D.str (Str.ofString "told"), D.tup (bo.map D.bl)]] = (ws2 ++ [W.told bo]).map wD := by rw [List.map_append]; rfl
  rw [e3]
  have ok3 : ∀ v ∈ ws2 ++ [W.told bo], v.ok n ts ∧ v.sz ≤ 12 := fun v hv => by
    rcases List.mem_append.mp hv with h | h
    · exact ok2 v h
    · rw [List.mem_singleton.mp h]
      exact ⟨hb, by simp [W.sz]⟩
  have ln3 : (ws2 ++ [W.told bo]).length = 6 := by simp [ln2]
  generalize ws2 ++ [W.told bo] = ws3 at ok3 ln3 ⊢
  have g3 := g2.put (l := S.length) (o := .lst true (ws3.map wD)) (Nat.le_refl _)
  have p3 : (T2.set S.length (.lst true (ws3.map wD)))[S.length]? = some (.lst true (ws3.map wD)) := List.getElem?_set_self (by omega)
  have q3 : (T2.set S.length (.lst true (ws3.map wD))).length = S.length + 1 := by simp [q2]
  generalize T2.set S.length (.lst true (ws3.map wD)) = T3 at g3 p3 q3 ⊢
  subst hG
  unfold bsR3
  generalize hG : bsR4 = G
  have hl3 := g3.kp _ _ hl
  simp [hl3]
  refine ⟨by omega, ?_⟩
  have g4 := g3.trans (Gw.app [O.lst true (bo.map D.bl)])
  have p4 := (Gw.app [O.lst true (bo.map D.bl)]).kp _ _ p3
  have b4 : (T3 ++ [O.lst true (bo.map D.bl)])[T3.length]? = some (.lst true (bo.map D.bl)) := at_a0
  generalize T3 ++ [O.lst true (bo.map D.bl)] = T4 at g4 p4 b4 ⊢
  have q0 : S.length < T3.length := by omega
  generalize T3.length = q at b4 q0 ⊢
  subst hG
  unfold bsR4
  generalize hG : bsR5 = G
  generalize hB : bsB1 = B
  simp
  refine for_inv (bJ S r l S.length q n ts w bo) ?_ ?_ _ _ _ ⟨⟨_, _, rfl⟩, 18, by simp [Src.items], g4.evg hp, g4.kp _ _ hl, ⟨ws3, p4, ok3, by omega⟩, ⟨bo, b4, rfl⟩⟩
  · rintro x xs ρ V ⟨⟨o6, o7, rfl⟩, c, c20, hT⟩
    rw [List.length_cons] at c20
    exact ⟨trivial, _, rfl, bsB1_ok hB.symm (by omega) hb l7 hr lr lS (Nat.le_refl _) (by omega) (by omega) (by omega) hT fun o6 o7 T h => ⟨⟨_, _, rfl⟩, c + 1, by omega, h⟩⟩
  · rintro ρ V ⟨⟨o6, o7, rfl⟩, c, c20, ⟨ev, tl, ⟨ws5, tp, ok5, ln5⟩, _⟩⟩
    refine ⟨trivial, ?_⟩
    simp at c20
    subst hG
    unfold bsR5
    generalize hG : bsR6 = G
    have a1 : L2.atI (bo.map D.bl) (-1) = some (.bl (bo[bo.length - 1]'(by omega))) := at_last (by simp [List.getElem?_eq_getElem (show bo.length - 1 < bo.length by omega)])
    have tl' : ∀ X, (V ++ X)[l]? = some (O.lst true (bo.map D.bl)) := fun X => (Gw.app X).kp _ _ tl
    simp [bE, tl, tl', a1]
    refine ⟨by omega, ?_⟩
    rw [cut_last (by omega)]
    have lr2 : V.length ≠ V.length + 1 := by omega
    simp
    refine ⟨by omega, ?_⟩
    obtain ⟨bs3, e7, lb3⟩ : ∃ bs3 : List Bool, (bo.map D.bl).take (bo.length - 1) ++ [D.bl !(bo[bo.length - 1]'(by omega))] = bs3.map D.bl ∧ bs3.length = bo.length := ⟨bo.take (bo.length - 1) ++ [!(bo[bo.length - 1]'(by omega))], by simp, by simp; omega⟩
    rw [e7]
    have ev6 := ev.app' [O.lst true ((bo.map D.bl).take (bo.length - 1)), O.lst true [D.bl !(bo[bo.length - 1]'(by omega))], O.lst true (bs3.map D.bl)]
    have tp6 := (Gw.app [O.lst true ((bo.map D.bl).take (bo.length - 1)), O.lst true [D.bl !(bo[bo.length - 1]'(by omega))], O.lst true (bs3.map D.bl)]).kp _ _ tp
    have t86 : (V ++ [O.lst true ((bo.map D.bl).take (bo.length - 1)), O.lst true [D.bl !(bo[bo.length - 1]'(by omega))], O.lst true (bs3.map D.bl)])[V.length + 2]? = some (.lst true (bs3.map D.bl)) := by simp
    have l86 : S.length ≤ V.length + 2 := by have := ev.ln; omega
    generalize V ++ [O.lst true ((bo.map D.bl).take (bo.length - 1)), O.lst true [D.bl !(bo[bo.length - 1]'(by omega))], O.lst true (bs3.map D.bl)] = T6 at ev6 tp6 t86 ⊢
    generalize V.length + 2 = z at t86 l86 ⊢
    subst hG
    unfold bsR6
    simp [t86]
    refine ⟨by omega, ?_⟩
    refine R.to (wish_ok tk pw_is wi_is Fm 3 (m - 1) T6 (by omega) (by omega) (by omega) ev6.pn) ?_
    rintro d T7 ⟨ev7, v, rfl, okv, szv⟩
    have tp7 := ev7.kp _ _ (by omega) tp6
    have tp7' : ∀ X, (T7 ++ X)[S.length]? = some (O.lst true (ws5.map wD)) := fun X => (Gw.app X).kp _ _ tp7
    simp [tp7']
    refine ⟨by omega, ?_⟩
    refine ⟨_, ws5 ++ [W.told bs3, v, W.one w w], rfl, by have := (ev6.trans ev7).ln; have := ev.ln; omega, ?_, fun u hu => ?_, (ev6.trans ev7).app' _⟩
    · simp; exact ⟨rfl, rfl⟩
    · rcases List.mem_append.mp hu with h | h
      · exact ok5 u h
      · simp only [List.mem_cons, List.not_mem_nil, or_false] at h
        rcases h with rfl | rfl | rfl
        · exact ⟨by show bs3.length = _; omega, by simp [W.sz]⟩
        · exact ⟨okv, by omega⟩
        · exact ⟨⟨ok, ok⟩, by simp [W.sz]; omega⟩
/-! the law -/
def lE (x : D) (r n : Nat) (ts : List D) (e f t : Nat) (w : W) (o8 o9 o10 o11 o12 o13 o14 o15 : Option D) : Dv.Env := [some (.ref 0), some x, some (.ref r), some (fr n ts), some (.ref e), some (.ref f), some (wD w), some (.ref t), o8, o9, o10, o11, o12, o13, o14, o15]
theorem wbO_rep (Fm : Frm n ts) (f : Option Nat) : ∃ x : Str, ∀ T : Sto, repO (toR T 1000 (wbO ts f)) T = .ok (.str x) T := by
  cases f with
  | none => exact ⟨_, fun T => rfl⟩
  | some k => exact rep_all (web_tng Fm.n8 (fun y hy => Fm.it y (wbK_mem hy)) (Nat.le_trans wbK_len Fm.l7)) (by omega) (by omega) (by omega)
theorem fuN_symm {w v : W} : fuN n ts v w = fuN n ts w v := by
  unfold fuN
  congr 1
  funext k
  by_cases h : tr n ts w k = tr n ts v k
  · simp [h]
  · have h2 : tr n ts v k ≠ tr n ts w k := fun e => h e.symm
    simp [h, h2]
noncomputable def rowK (n : Nat) (ts : List D) (w v : W) (k : Nat) : D := .tup [.tup (wbK ts k), .bl (tr n ts w k), .bl (tr n ts v k)]
theorem rows_is {w v : W} : zip3L ((List.range (2 ^ ts.length)).map fun k => .tup (wbK ts k)) ((tblL n ts w).map D.bl) ((tblL n ts v).map D.bl) = (List.range (2 ^ ts.length)).map (rowK n ts w v) := by
  unfold zip3L tblL
  rw [List.map_map, List.map_map]
  induction List.range (2 ^ ts.length) with
  | nil => rfl
  | cons k l ih =>
    simp only [List.map_cons, List.zip_cons_cons, Function.comp] at ih ⊢
    rw [ih]; rfl
theorem due_is {w v : W} {V : Sto} : ((((List.range (2 ^ ts.length)).map (rowK n ts w v)).filter fun d => match d with | .tup [_, .bl a, .bl b] => !decide (a = b) | _ => false).map (fun d => match d with | .tup [x, _, _] => x | d => d) ++ [D.non])[0]? = some (wbO ts (fuN n ts w v)) := by
  unfold fuN
  induction List.range (2 ^ ts.length) with
  | nil => rfl
  | cons k l ih =>
    rw [List.map_cons, List.filter_cons, List.find?_cons]
    by_cases h : tr n ts w k = tr n ts v k
    · simp [rowK, h] at ih ⊢
      exact ih
    · simp [rowK, h]
      rfl
def oJ (ns : List Int) (b : Bool) (xs : List D) (ρ : Dv.Env) (T : Sto) : Prop := ∃ o1 o2 o3 o4 o5 o6 o7 o8 o9 o10 o11 o12, ρ = [some (.ref 0), o1, o2, o3, o4, o5, o6, o7, o8, o9, o10, o11, o12, none, none, none] ∧ T[0]? = some (.lst b (ns.map D.int)) ∧ ∀ x ∈ xs, ∃ k : Int, x = .int k ∧ 0 ≤ k ∧ k < 1000
def iJ (S0 : Sto) (x : D) (r n : Nat) (ts : List D) (e f t : Nat) (w : W) (p : Nat) (pl : List D) (xs : List D) (ρ : Dv.Env) (T : Sto) : Prop := (∃ o8 o9 o10 o11 o12, ρ = lE x r n ts e f t w o8 o9 o10 o11 o12 none none none) ∧ Gw S0 T ∧ ∀ y ∈ xs, ∃ v : W, y = wD v ∧ v.ok n ts ∧ v.sz ≤ 12
theorem lB1B1_ok {F : DenS} (hF : F = lB1B1) (hm : 40 ≤ m) (Fm : Frm n ts) {w v : W} (okw : w.ok n ts) (szw : w.sz ≤ 12) (okv : v.ok n ts) (szv : v.sz ≤ 12) {x : D} {r e f t B : Nat} {rs : List Nat} {o9 o10 o11 o12 : Option D}
    (he : S[e]? = some (.lst true ((List.range (2 ^ ts.length)).map fun k => .tup (wbK ts k)))) (af : AF S n ts f rs B) (ht : S[t]? = some (.lst true ((tblL n ts w).map D.bl))) {J : Dv.Env → Sto → Prop} {Q : Fl → Sto → Prop}
    (hJ : ∀ o9 o10 o11 o12 T, Gw S T → J (lE x r n ts e f t w (some (wD v)) o9 o10 o11 o12 none none none) T) :
    (F (Phi bodies m) (lE x r n ts e f t w (some (wD v)) o9 o10 o11 o12 none none none) S).wp (forQ J Q) noX := by
  have l7 := Fm.l7
  have p7 : 2 ^ ts.length ≤ 2 ^ 7 := Nat.pow_le_pow_right (by omega) l7
  have tw : Tng ([] : Sto) false 400 30 20000 (.tup [fr n ts, wD w, wD v]) := ((TngL.cons ((frame_tng (S := []) Fm).up (show 20 ≤ 302 by omega) (show 3 ≤ 25 by omega) (Nat.le_refl _)) (TngL.cons ((wish_tng (S := []) l7 Fm.n8 Fm.it okw).up (show _ ≤ 301 by omega) (show _ ≤ 25 by omega) (Nat.le_refl _)) (TngL.one ((wish_tng (S := []) l7 Fm.n8 Fm.it okv).up (show _ ≤ 300 by omega) (show _ ≤ 25 by omega) (Nat.le_refl _))))).tup).up (by omega) (by omega) (by omega)
  obtain ⟨tx, htx⟩ := repr_eq tw (by omega) (by omega) (by omega)
  have rr : ∀ U : Sto, repO (toR U 1000 (.tup [fr n ts, wD w, wD v])) U = .ok (.str tx) U := fun U => by
    have := htx U (any _)
    rwa [repr_1] at this
  obtain ⟨ty, rd⟩ := wbO_rep Fm (fuN n ts w v)
  subst hF
  unfold lB1B1 lE
  generalize hG : lB1B1R1 = G
  simp
  refine R.to (table_ok pl_is tb_is Fm v m S okv (by omega) af) ?_
  rintro d T1 ⟨g1, dl, rfl, _, hd⟩
  have he1 := g1.kp _ _ he
  have ht1 := g1.kp _ _ ht
  simp [he1, ht1, hd]
  refine ⟨by omega, ?_⟩
  rw [rows_is]
  have g2 := g1.trans (Gw.app [O.lst true ((List.range (2 ^ ts.length)).map (rowK n ts w v))])
  have h9 : (T1 ++ [O.lst true ((List.range (2 ^ ts.length)).map (rowK n ts w v))])[T1.length]? = some (.lst true ((List.range (2 ^ ts.length)).map (rowK n ts w v))) := at_a0
  generalize T1 ++ [O.lst true ((List.range (2 ^ ts.length)).map (rowK n ts w v))] = T2 at g2 h9 ⊢
  generalize T1.length = q at h9 ⊢
  subst hG
  unfold lB1B1R1
  generalize hG : lB1B1R2 = G
  simp [h9, wipeE]
  rw [lc_pure (p := fun d => match d with | .tup [_, .bl a, .bl b] => !decide (a = b) | _ => false) (g := fun d => match d with | .tup [x, _, _] => x | d => d) (fun acc => (Gw.app _).kp _ _ h9) (fun d hd => ?_) (mx_small (by simp; omega))]
  · have du := due_is (n := n) (ts := ts) (w := w) (v := v) (V := S)
    have ln : (((List.range (2 ^ ts.length)).map (rowK n ts w v)).filter fun d => match d with | .tup [_, .bl a, .bl b] => !decide (a = b) | _ => false).length ≤ 128 := Nat.le_trans (List.length_filter_le _ _) (by simp; omega)
    rw [List.nil_append]
    generalize ((List.range (2 ^ ts.length)).map (rowK n ts w v)).filter (fun d => match d with | .tup [_, .bl a, .bl b] => !decide (a = b) | _ => false) = L at du ln ⊢
    generalize hL2 : L.map (fun d => match d with | .tup [x, _, _] => x | d => d) = Lw at du ⊢
    have ln2 : Lw.length ≤ 128 := by rw [← hL2, List.length_map]; exact ln
    have a0 : L2.atI (Lw ++ [D.non]) 0 = some (wbO ts (fuN n ts w v)) := L2.atI_nat (j := 0) du
    simp
    refine ⟨by omega, ?_⟩
    simp [a0]
    have g3 := g2.trans (Gw.app [O.lst true Lw, O.lst true [D.non], O.lst true (Lw ++ [D.non])])
    generalize T2 ++ [O.lst true Lw, O.lst true [D.non], O.lst true (Lw ++ [D.non])] = T3 at g3 ⊢
    subst hG
    unfold lB1B1R2
    generalize hG : lB1B1R3 = G
    simp [rr]
    subst hG
    unfold lB1B1R3
    generalize hG : lB1B1R4 = G
    simp
    refine R.to (fu_ok A fu_is Fm ws_is okw okv (by omega) (by omega)) ?_
    rintro d T4 ⟨rfl, g4⟩
    simp
    subst hG
    unfold lB1B1R4
    generalize hG : lB1B1R5 = G
    simp [rd]
    refine R.to (fu_ok A fu_is Fm ws_is okv okw (by omega) (by omega)) ?_
    rintro d T5 ⟨rfl, g5⟩
    have sy : fuN n ts v w = fuN n ts w v := fuN_symm
    rw [sy]
    simp [rd]
    subst hG
    simp [lB1B1R5, rr]
    exact hJ _ _ _ _ _ ((g3.trans g4).trans g5)
  · obtain ⟨k, hk, rfl⟩ := List.mem_map.mp hd
    refine ⟨_, tg_tp rfl, fun acc => ⟨R.eq_of ?_, fun _ => R.eq_of ?_⟩⟩
    · simp [rowK, setAll]
    · simp [rowK, setAll]
theorem lB1R2_ok {F : DenS} (hF : F = lB1R2) (hm : 50 ≤ m) (Fm : Frm n ts) {x : D} {r : Nat} (r0 : 0 < r) (hp : PnG K3 S r) (h0 : S[0]? = some (.lst b (ns.map D.int))) {o4 o5 o6 o7 o8 o9 o10 o11 o12 : Option D} {xs : List D} (hx : ∀ y ∈ xs, ∃ k : Int, y = .int k ∧ 0 ≤ k ∧ k < 1000) {Q : Fl → Sto → Prop} :
    (F (Phi bodies m) [some (.ref 0), some x, some (.ref r), some (fr n ts), o4, o5, o6, o7, o8, o9, o10, o11, o12, none, none, none] S).wp (forQ (oJ ns b xs) Q) noX := by
  subst hF
  have l7 := Fm.l7
  have p7 : 2 ^ ts.length ≤ 2 ^ 7 := Nat.pow_le_pow_right (by omega) l7
  unfold lB1R2
  generalize hG : lB1R3 = G
  simp
  refine R.to (lwebs_ok webs_is (by omega) Fm.l7) ?_
  rintro d T1 ⟨rfl, g1, he⟩
  unfold wbL at he
  have rS := hp.lt
  simp
  subst hG
  unfold lB1R3
  generalize hG : lB1R4 = G
  simp
  refine R.to (afacts_ok webs_is re_is ts_is fa_is af_is (by omega) Fm) ?_
  rintro d T2 ⟨g2, f, rs, rfl, _, af⟩
  have ev2 := (g1.trans g2).evg hp
  have he2 := g2.kp _ _ he
  simp
  subst hG
  unfold lB1R4
  generalize hG : lB1R5 = G
  simp
  refine R.to (wish_ok tk pw_is wi_is Fm 4 m T2 (by omega) (by omega) (by omega) ev2.pn) ?_
  rintro d T3 ⟨ev3, w, rfl, okw, szw⟩
  have he3 := ev3.kp _ _ (by omega) he2
  have af3 := af.ev ev3 (by have := g1.ln; omega)
  simp
  subst hG
  unfold lB1R5
  generalize hG : lB1R6 = G
  simp
  refine R.to (table_ok pl_is tb_is Fm w m T3 okw (by omega) af3) ?_
  rintro d T4 ⟨g4, t, rfl, tl, ht⟩
  have he4 := g4.kp _ _ he3
  have af4 := af3.up g4
  have rT3 := ev3.pn.lt
  simp
  subst hG
  unfold lB1R6
  generalize hB : lB1B1 = B
  simp
  refine R.to (bs_ok (m := m) (by omega) Fm okw szw (tblL_len (n := n) (w := w)) ht (by omega) (g4.evg ev3.pn).pn) ?_
  rintro d T5 ⟨p, ws, rfl, pl, hpw, okv, ev5⟩
  have he5 := ev5.kp _ _ (by omega) he4
  have ht5 := ev5.kp _ _ (by omega) ht
  have af5 := af4.ev ev5 (by have := g1.ln; omega)
  have ev := ((ev2.trans ev3).trans (g4.evg ev3.pn)).trans ev5
  have h05 := ev.kp _ _ (by omega) h0
  simp [hpw]
  refine for_inv (iJ T5 x r n ts S.length f t w p (ws.map wD)) ?_ ?_ _ _ _ ⟨⟨_, _, _, _, _, rfl⟩, Gw.refl, fun y hy => ?_⟩
  · rintro y ys ρ V ⟨⟨o8, o9, o10, o11, o12, rfl⟩, gV, hy⟩
    obtain ⟨v, rfl, ok, sz⟩ := hy y List.mem_cons_self
    refine ⟨gV.kp _ _ hpw, _, rfl, ?_⟩
    exact lB1B1_ok hB.symm (by omega) Fm okw (by omega) ok sz (gV.kp _ _ he5) (af5.up gV) (gV.kp _ _ ht5) fun o9 o10 o11 o12 T g => ⟨⟨_, _, _, _, _, rfl⟩, gV.trans g, fun z hz => hy z (List.mem_cons_of_mem _ hz)⟩
  · rintro ρ V ⟨⟨o8, o9, o10, o11, o12, rfl⟩, gV, hy⟩
    refine ⟨gV.kp _ _ hpw, ?_⟩
    exact ⟨_, _, _, _, _, _, _, _, _, _, _, _, rfl, gV.kp _ _ h05, hx⟩
  · obtain ⟨v, hv, rfl⟩ := List.mem_map.mp hy
    exact ⟨v, rfl, okv v hv⟩
theorem lB1_ok {F : DenS} (hF : F = lB1) (hm : 50 ≤ m) {x : D} {o2 o3 o4 o5 o6 o7 o8 o9 o10 o11 o12 : Option D} {T : Sto} {xs : List D} (hl : ns.length ≤ 63) (h0 : T[0]? = some (.lst b (ns.map D.int))) (hx : ∀ y ∈ x :: xs, ∃ k : Int, y = .int k ∧ 0 ≤ k ∧ k < 1000) {Q : Fl → Sto → Prop} :
    (F (Phi bodies m) [some (.ref 0), some x, o2, o3, o4, o5, o6, o7, o8, o9, o10, o11, o12, none, none, none] T).wp (forQ (oJ ns b xs) Q) noX := by
  subst hF
  obtain ⟨k, rfl, k0, k1⟩ := hx x List.mem_cons_self
  have lt0 := (List.getElem?_eq_some_iff.mp h0).1
  unfold lB1
  generalize hG : lB1R1 = G
  simp
  refine R.to (pen3_ok pen_is (by omega) h0 hl k0 k1) ?_
  rintro d T1 ⟨rfl, o, ko, rfl⟩
  have hp : PnG K3 (T ++ [o]) T.length := ⟨o, at_a0, ko⟩
  have h01 : (T ++ [o])[0]? = some (.lst b (ns.map D.int)) := (Gw.app _).kp _ _ h0
  simp
  subst hG
  unfold lB1R1
  generalize hG : lB1R2 = G
  simp
  have ev1 : EvG K3 T.length (T ++ [o]) (T ++ [o, O.lst true [D.int 4, .int 5, .int 3, .int 5, .int 4, .int 2, .int 7, .int 6]]) := by
    have := EvG.app hp [O.lst true [D.int 4, .int 5, .int 3, .int 5, .int 4, .int 2, .int 7, .int 6]]
    simpa using this
  refine pick_g (L := T.length + 1) (w := true) (xs := [D.int 4, .int 5, .int 3, .int 5, .int 4, .int 2, .int 7, .int 6]) tk (by omega) ev1.pn (by simp) (by omega) rfl (by simp) (by simp) fun q hq T2 ev2 l2 => ?_
  obtain ⟨q, rfl, q7⟩ : ∃ q' : Nat, q = .int (q' : Int) ∧ q' ≤ 7 := by
    simp only [List.mem_cons, List.not_mem_nil, or_false] at hq
    rcases hq with rfl | rfl | rfl | rfl | rfl | rfl | rfl | rfl <;> first | exact ⟨2, rfl, by omega⟩ | exact ⟨3, rfl, by omega⟩ | exact ⟨4, rfl, by omega⟩ | exact ⟨5, rfl, by omega⟩ | exact ⟨6, rfl, by omega⟩ | exact ⟨7, rfl, by omega⟩
  have ev02 := ev1.trans ev2
  have h02 := ev02.kp _ _ (by omega) h01
  simp
  refine R.to (f10_ok tk frame_is (by omega) ev02.pn q7) ?_
  rintro d T3 ⟨n, ts, rfl, Fm, ev3⟩
  have h03 := ev3.kp _ _ (by omega) h02
  simp
  exact lB1R2_ok hG.symm (by omega) Fm (by omega) ev3.pn h03 fun y hy => hx y (List.mem_cons_of_mem _ hy)
theorem law_data (b : Bool) (ns : List Int) (h : ns.length ≤ 63) (hb : ∀ z ∈ ns, Builtin.Int.intBits z ≤ 1048576) : ∃ S', Phi bodies 65 0 26 [.ref 0] [.lst b (ns.map D.int)] = .ok (.bl true) S' := by
  suffices h : (Phi bodies 65 0 26 [.ref 0] [.lst b (ns.map D.int)]).wp yes noX by
    obtain ⟨a, S', e, rfl⟩ := R.wp_get h
    exact ⟨S', e⟩
  refine wpP (by omega) l_is ?_
  unfold lF
  generalize hG : lR1 = G
  generalize hB : lB1 = B
  simp
  refine ⟨by split <;> split <;> omega, ?_⟩
  refine for_inv (oJ ns b) ?_ ?_ _ _ _ ?_
  · rintro x xs ρ T ⟨o1, o2, o3, o4, o5, o6, o7, o8, o9, o10, o11, o12, rfl, h0, hx⟩
    exact ⟨trivial, _, rfl, lB1_ok hB.symm (by omega) h h0 hx⟩
  · rintro ρ T ⟨o1, o2, o3, o4, o5, o6, o7, o8, o9, o10, o11, o12, rfl, h0, hx⟩
    refine ⟨trivial, ?_⟩
    subst hG
    simp [lR1, yes]
  · refine ⟨none, none, none, none, none, none, none, none, none, none, none, none, rfl, by simp, fun x hx => ?_⟩
    obtain ⟨k, hk, rfl⟩ := rng_mem hx
    refine ⟨_, rfl, by omega, ?_⟩
    have : k < 1000 := Nat.lt_of_lt_of_le hk (by split <;> split <;> omega)
    omega
end
end Kj

namespace Kj
open PySem PySem.Spec PyProof.Rows L2 Dv
theorem all_mk {w : World} {K : PySem.W.Frag} {h : Heap} {mg : Str → Option Value} {fa : Addr} (X : K.In h) (G : h.Ns mainGlobals mg) (hfa : mg "law" = some (.ref fa)) (TA : TabsAt K mg h ["missing", "pieces", "sides_of", "has_three", "has_shape"])
    {f0 f1 f2 f3 f4 f5 f6 f7 f8 f9 f10 f11 f12 f13 f14 f15 f16 f17 f18 f19 f20 f21 f22 f23 f24 f25 f26 : Addr} {od0 an0 od1 an1 od2 an2 od3 an3 od4 an4 od5 an5 od6 an6 od7 an7 od8 an8 od9 an9 od10 an10 od11 an11 od12 an12 od13 an13 od14 an14 od15 an15 od16 an16 od17 an17 od18 an18 od19 an19 od20 an20 od21 an21 od22 an22 od23 an23 od24 an24 od25 an25 od26 an26 : Option Addr} {sl0 sl1 sl2 sl3 sl4 sl5 sl6 sl7 sl8 sl9 sl10 sl11 sl12 sl13 sl14 sl15 sl16 sl17 sl18 sl19 sl20 sl21 sl22 sl23 sl24 sl25 sl26 : Array (Option Value)} {oc0 kV0 dc0 pm0 ct0 oc1 kV1 dc1 pm1 ct1 oc2 kV2 dc2 pm2 ct2 oc3 kV3 dc3 pm3 ct3 oc4 kV4 dc4 pm4 ct4 oc5 kV5 dc5 pm5 ct5 oc6 kV6 dc6 pm6 ct6 oc7 kV7 dc7 pm7 ct7 oc8 kV8 dc8 pm8 ct8 oc9 kV9 dc9 pm9 ct9 oc10 kV10 dc10 pm10 ct10 oc11 kV11 dc11 pm11 ct11 oc12 kV12 dc12 pm12 ct12 oc13 kV13 dc13 pm13 ct13 oc14 kV14 dc14 pm14 ct14 oc15 kV15 dc15 pm15 ct15 oc16 kV16 dc16 pm16 ct16 oc17 kV17 dc17 pm17 ct17 oc18 kV18 dc18 pm18 ct18 oc19 kV19 dc19 pm19 ct19 oc20 kV20 dc20 pm20 ct20 oc21 kV21 dc21 pm21 ct21 oc22 kV22 dc22 pm22 ct22 oc23 kV23 dc23 pm23 ct23 oc24 kV24 dc24 pm24 ct24 oc25 kV25 dc25 pm25 ct25 oc26 kV26 dc26 pm26 ct26 : Value}
    {cd0 cd1 cd3 cd4 cd6 cd10 cd11 cd12 cd13 cd14 cd15 cd16 cd17 cd18 cd19 cd20 cd21 cd22 cd23 cd24 cd25 cd26 : Value}
    {c2 t2 c5 t5 c7 t7 c8 t8 c9 t9 : Addr} {ec2 ec5 ec7 ec8 ec9 : Value} {ed2 ed5 ed7 ed8 ed9 : Option Addr} {ev2 ev5 ev7 ev8 ev9 : Array Value} {es2 es5 es7 es8 es9 : Array (Option Value)}
    (a0 : PySem.W.nsIn K mainGlobals "webs" = some (some (.ref f0))) (l0 : K.lookup f0 = some ⟨oc0, od0, .func (PySem.W.fnOf "webs" "webs" (defArgs st_0) (defBody st_0) (defScope st_0) .none kV0 dc0 pm0 an0 cd0 ct0), sl0⟩) (e0 : PySem.W.codeIn K cd0 "webs" = true) (k0 : PySem.W.keepIn K (.ref f0) = true)
    (a1 : PySem.W.nsIn K mainGlobals "number_of" = some (some (.ref f1))) (l1 : K.lookup f1 = some ⟨oc1, od1, .func (PySem.W.fnOf "number_of" "number_of" (defArgs st_1) (defBody st_1) (defScope st_1) .none kV1 dc1 pm1 an1 cd1 ct1), sl1⟩) (e1 : PySem.W.codeIn K cd1 "number_of" = true) (k1 : PySem.W.keepIn K (.ref f1) = true)
    (a2 : PySem.W.nsIn K mainGlobals "missing" = some (some (.ref f2))) (l2 : K.lookup f2 = some ⟨oc2, od2, .func (PySem.W.fnOf "missing" "missing" (defArgs st_2) (defBody st_2) (defScope st_2) .none kV2 dc2 pm2 an2 (.ref c2) ct2), sl2⟩) (e2 : PySem.W.codeIn K (.ref c2) "missing" = true) (k2 : PySem.W.keepIn K (.ref f2) = true)
    (a3 : PySem.W.nsIn K mainGlobals "near" = some (some (.ref f3))) (l3 : K.lookup f3 = some ⟨oc3, od3, .func (PySem.W.fnOf "near" "near" (defArgs st_3) (defBody st_3) (defScope st_3) .none kV3 dc3 pm3 an3 cd3 ct3), sl3⟩) (e3 : PySem.W.codeIn K cd3 "near" = true) (k3 : PySem.W.keepIn K (.ref f3) = true)
    (a4 : PySem.W.nsIn K mainGlobals "ways_from" = some (some (.ref f4))) (l4 : K.lookup f4 = some ⟨oc4, od4, .func (PySem.W.fnOf "ways_from" "ways_from" (defArgs st_4) (defBody st_4) (defScope st_4) .none kV4 dc4 pm4 an4 cd4 ct4), sl4⟩) (e4 : PySem.W.codeIn K cd4 "ways_from" = true) (k4 : PySem.W.keepIn K (.ref f4) = true)
    (a5 : PySem.W.nsIn K mainGlobals "pieces" = some (some (.ref f5))) (l5 : K.lookup f5 = some ⟨oc5, od5, .func (PySem.W.fnOf "pieces" "pieces" (defArgs st_5) (defBody st_5) (defScope st_5) .none kV5 dc5 pm5 an5 (.ref c5) ct5), sl5⟩) (e5 : PySem.W.codeIn K (.ref c5) "pieces" = true) (k5 : PySem.W.keepIn K (.ref f5) = true)
    (a6 : PySem.W.nsIn K mainGlobals "ring_of" = some (some (.ref f6))) (l6 : K.lookup f6 = some ⟨oc6, od6, .func (PySem.W.fnOf "ring_of" "ring_of" (defArgs st_6) (defBody st_6) (defScope st_6) .none kV6 dc6 pm6 an6 cd6 ct6), sl6⟩) (e6 : PySem.W.codeIn K cd6 "ring_of" = true) (k6 : PySem.W.keepIn K (.ref f6) = true)
    (a7 : PySem.W.nsIn K mainGlobals "sides_of" = some (some (.ref f7))) (l7 : K.lookup f7 = some ⟨oc7, od7, .func (PySem.W.fnOf "sides_of" "sides_of" (defArgs st_7) (defBody st_7) (defScope st_7) .none kV7 dc7 pm7 an7 (.ref c7) ct7), sl7⟩) (e7 : PySem.W.codeIn K (.ref c7) "sides_of" = true) (k7 : PySem.W.keepIn K (.ref f7) = true)
    (a8 : PySem.W.nsIn K mainGlobals "has_three" = some (some (.ref f8))) (l8 : K.lookup f8 = some ⟨oc8, od8, .func (PySem.W.fnOf "has_three" "has_three" (defArgs st_8) (defBody st_8) (defScope st_8) .none kV8 dc8 pm8 an8 (.ref c8) ct8), sl8⟩) (e8 : PySem.W.codeIn K (.ref c8) "has_three" = true) (k8 : PySem.W.keepIn K (.ref f8) = true)
    (a9 : PySem.W.nsIn K mainGlobals "has_shape" = some (some (.ref f9))) (l9 : K.lookup f9 = some ⟨oc9, od9, .func (PySem.W.fnOf "has_shape" "has_shape" (defArgs st_9) (defBody st_9) (defScope st_9) .none kV9 dc9 pm9 an9 (.ref c9) ct9), sl9⟩) (e9 : PySem.W.codeIn K (.ref c9) "has_shape" = true) (k9 : PySem.W.keepIn K (.ref f9) = true)
    (a10 : PySem.W.nsIn K mainGlobals "has_simple" = some (some (.ref f10))) (l10 : K.lookup f10 = some ⟨oc10, od10, .func (PySem.W.fnOf "has_simple" "has_simple" (defArgs st_10) (defBody st_10) (defScope st_10) .none kV10 dc10 pm10 an10 cd10 ct10), sl10⟩) (e10 : PySem.W.codeIn K cd10 "has_simple" = true) (k10 : PySem.W.keepIn K (.ref f10) = true)
    (a11 : PySem.W.nsIn K mainGlobals "has" = some (some (.ref f11))) (l11 : K.lookup f11 = some ⟨oc11, od11, .func (PySem.W.fnOf "has" "has" (defArgs st_11) (defBody st_11) (defScope st_11) .none kV11 dc11 pm11 an11 cd11 ct11), sl11⟩) (e11 : PySem.W.codeIn K cd11 "has" = true) (k11 : PySem.W.keepIn K (.ref f11) = true)
    (a12 : PySem.W.nsIn K mainGlobals "first_unlike" = some (some (.ref f12))) (l12 : K.lookup f12 = some ⟨oc12, od12, .func (PySem.W.fnOf "first_unlike" "first_unlike" (defArgs st_12) (defBody st_12) (defScope st_12) .none kV12 dc12 pm12 an12 cd12 ct12), sl12⟩) (e12 : PySem.W.codeIn K cd12 "first_unlike" = true) (k12 : PySem.W.keepIn K (.ref f12) = true)
    (a13 : PySem.W.nsIn K mainGlobals "_law_pen" = some (some (.ref f13))) (l13 : K.lookup f13 = some ⟨oc13, od13, .func (PySem.W.fnOf "_law_pen" "_law_pen" (defArgs st_13) (defBody st_13) (defScope st_13) .none kV13 dc13 pm13 an13 cd13 ct13), sl13⟩) (e13 : PySem.W.codeIn K cd13 "_law_pen" = true) (k13 : PySem.W.keepIn K (.ref f13) = true)
    (a14 : PySem.W.nsIn K mainGlobals "_law_take" = some (some (.ref f14))) (l14 : K.lookup f14 = some ⟨oc14, od14, .func (PySem.W.fnOf "_law_take" "_law_take" (defArgs st_14) (defBody st_14) (defScope st_14) .none kV14 dc14 pm14 an14 cd14 ct14), sl14⟩) (e14 : PySem.W.codeIn K cd14 "_law_take" = true) (k14 : PySem.W.keepIn K (.ref f14) = true)
    (a15 : PySem.W.nsIn K mainGlobals "_law_frame" = some (some (.ref f15))) (l15 : K.lookup f15 = some ⟨oc15, od15, .func (PySem.W.fnOf "_law_frame" "_law_frame" (defArgs st_15) (defBody st_15) (defScope st_15) .none kV15 dc15 pm15 an15 cd15 ct15), sl15⟩) (e15 : PySem.W.codeIn K cd15 "_law_frame" = true) (k15 : PySem.W.keepIn K (.ref f15) = true)
    (a16 : PySem.W.nsIn K mainGlobals "_law_webs" = some (some (.ref f16))) (l16 : K.lookup f16 = some ⟨oc16, od16, .func (PySem.W.fnOf "_law_webs" "_law_webs" (defArgs st_16) (defBody st_16) (defScope st_16) .none kV16 dc16 pm16 an16 cd16 ct16), sl16⟩) (e16 : PySem.W.codeIn K cd16 "_law_webs" = true) (k16 : PySem.W.keepIn K (.ref f16) = true)
    (a17 : PySem.W.nsIn K mainGlobals "_law_reached" = some (some (.ref f17))) (l17 : K.lookup f17 = some ⟨oc17, od17, .func (PySem.W.fnOf "_law_reached" "_law_reached" (defArgs st_17) (defBody st_17) (defScope st_17) .none kV17 dc17 pm17 an17 cd17 ct17), sl17⟩) (e17 : PySem.W.codeIn K cd17 "_law_reached" = true) (k17 : PySem.W.keepIn K (.ref f17) = true)
    (a18 : PySem.W.nsIn K mainGlobals "_law_two_sides" = some (some (.ref f18))) (l18 : K.lookup f18 = some ⟨oc18, od18, .func (PySem.W.fnOf "_law_two_sides" "_law_two_sides" (defArgs st_18) (defBody st_18) (defScope st_18) .none kV18 dc18 pm18 an18 cd18 ct18), sl18⟩) (e18 : PySem.W.codeIn K cd18 "_law_two_sides" = true) (k18 : PySem.W.keepIn K (.ref f18) = true)
    (a19 : PySem.W.nsIn K mainGlobals "_law_facts" = some (some (.ref f19))) (l19 : K.lookup f19 = some ⟨oc19, od19, .func (PySem.W.fnOf "_law_facts" "_law_facts" (defArgs st_19) (defBody st_19) (defScope st_19) .none kV19 dc19 pm19 an19 cd19 ct19), sl19⟩) (e19 : PySem.W.codeIn K cd19 "_law_facts" = true) (k19 : PySem.W.keepIn K (.ref f19) = true)
    (a20 : PySem.W.nsIn K mainGlobals "_law_plain" = some (some (.ref f20))) (l20 : K.lookup f20 = some ⟨oc20, od20, .func (PySem.W.fnOf "_law_plain" "_law_plain" (defArgs st_20) (defBody st_20) (defScope st_20) .none kV20 dc20 pm20 an20 cd20 ct20), sl20⟩) (e20 : PySem.W.codeIn K cd20 "_law_plain" = true) (k20 : PySem.W.keepIn K (.ref f20) = true)
    (a21 : PySem.W.nsIn K mainGlobals "_law_all_facts" = some (some (.ref f21))) (l21 : K.lookup f21 = some ⟨oc21, od21, .func (PySem.W.fnOf "_law_all_facts" "_law_all_facts" (defArgs st_21) (defBody st_21) (defScope st_21) .none kV21 dc21 pm21 an21 cd21 ct21), sl21⟩) (e21 : PySem.W.codeIn K cd21 "_law_all_facts" = true) (k21 : PySem.W.keepIn K (.ref f21) = true)
    (a22 : PySem.W.nsIn K mainGlobals "_law_table" = some (some (.ref f22))) (l22 : K.lookup f22 = some ⟨oc22, od22, .func (PySem.W.fnOf "_law_table" "_law_table" (defArgs st_22) (defBody st_22) (defScope st_22) .none kV22 dc22 pm22 an22 cd22 ct22), sl22⟩) (e22 : PySem.W.codeIn K cd22 "_law_table" = true) (k22 : PySem.W.keepIn K (.ref f22) = true)
    (a23 : PySem.W.nsIn K mainGlobals "_law_plain_wish" = some (some (.ref f23))) (l23 : K.lookup f23 = some ⟨oc23, od23, .func (PySem.W.fnOf "_law_plain_wish" "_law_plain_wish" (defArgs st_23) (defBody st_23) (defScope st_23) .none kV23 dc23 pm23 an23 cd23 ct23), sl23⟩) (e23 : PySem.W.codeIn K cd23 "_law_plain_wish" = true) (k23 : PySem.W.keepIn K (.ref f23) = true)
    (a24 : PySem.W.nsIn K mainGlobals "_law_wish" = some (some (.ref f24))) (l24 : K.lookup f24 = some ⟨oc24, od24, .func (PySem.W.fnOf "_law_wish" "_law_wish" (defArgs st_24) (defBody st_24) (defScope st_24) .none kV24 dc24 pm24 an24 cd24 ct24), sl24⟩) (e24 : PySem.W.codeIn K cd24 "_law_wish" = true) (k24 : PySem.W.keepIn K (.ref f24) = true)
    (a25 : PySem.W.nsIn K mainGlobals "_law_beside" = some (some (.ref f25))) (l25 : K.lookup f25 = some ⟨oc25, od25, .func (PySem.W.fnOf "_law_beside" "_law_beside" (defArgs st_25) (defBody st_25) (defScope st_25) .none kV25 dc25 pm25 an25 cd25 ct25), sl25⟩) (e25 : PySem.W.codeIn K cd25 "_law_beside" = true) (k25 : PySem.W.keepIn K (.ref f25) = true)
    (a26 : PySem.W.nsIn K mainGlobals "law" = some (some (.ref f26))) (l26 : K.lookup f26 = some ⟨oc26, od26, .func (PySem.W.fnOf "law" "law" (defArgs st_26) (defBody st_26) (defScope st_26) .none kV26 dc26 pm26 an26 cd26 ct26), sl26⟩) (e26 : PySem.W.codeIn K cd26 "law" = true) (k26 : PySem.W.keepIn K (.ref f26) = true)
    (u2 : K.lookup c2 = some ⟨ec2, ed2, .fields ev2, es2⟩) (p2 : ev2[11]? = some (.ref t2)) (h2 : PySem.W.codeHdIn K c2 t2 = true) (n2 : K.lookup t2 = none)
    (u5 : K.lookup c5 = some ⟨ec5, ed5, .fields ev5, es5⟩) (p5 : ev5[11]? = some (.ref t5)) (h5 : PySem.W.codeHdIn K c5 t5 = true) (n5 : K.lookup t5 = none)
    (u7 : K.lookup c7 = some ⟨ec7, ed7, .fields ev7, es7⟩) (p7 : ev7[11]? = some (.ref t7)) (h7 : PySem.W.codeHdIn K c7 t7 = true) (n7 : K.lookup t7 = none)
    (u8 : K.lookup c8 = some ⟨ec8, ed8, .fields ev8, es8⟩) (p8 : ev8[11]? = some (.ref t8)) (h8 : PySem.W.codeHdIn K c8 t8 = true) (n8 : K.lookup t8 = none)
    (u9 : K.lookup c9 = some ⟨ec9, ed9, .fields ev9, es9⟩) (p9 : ev9[11]? = some (.ref t9)) (h9 : PySem.W.codeHdIn K c9 t9 = true) (n9 : K.lookup t9 = none)
    (z_abs : PySem.W.nsIn K mainGlobals "abs" = some none)
    (z_any : PySem.W.nsIn K mainGlobals "any" = some none)
    (z_int : PySem.W.nsIn K mainGlobals "int" = some none)
    (z_len : PySem.W.nsIn K mainGlobals "len" = some none)
    (z_list : PySem.W.nsIn K mainGlobals "list" = some none)
    (z_max : PySem.W.nsIn K mainGlobals "max" = some none)
    (z_min : PySem.W.nsIn K mainGlobals "min" = some none)
    (z_range : PySem.W.nsIn K mainGlobals "range" = some none)
    (z_repr : PySem.W.nsIn K mainGlobals "repr" = some none)
    (z_sorted : PySem.W.nsIn K mainGlobals "sorted" = some none)
    (z_sum : PySem.W.nsIn K mainGlobals "sum" = some none)
    (z_tuple : PySem.W.nsIn K mainGlobals "tuple" = some none)
    (z_zip : PySem.W.nsIn K mainGlobals "zip" = some none) :
    LawG PySem.Challenge.rw_allasked_k15_the_first_web_unlike w K CX0 65 63 "_law_script" mg fa h := by
  have e : f26 = fa := by
    have q := (PySem.W.mg_of X G a26).symm.trans hfa
    cases q
    rfl
  subst e
  refine ⟨(PySem.W.fnOf "law" "law" (defArgs st_26) (defBody st_26) (defScope st_26) .none kV26 dc26 pm26 an26 cd26 ct26), [(c2, t2), (c5, t5), (c7, t7), (c8, t8), (c9, t9)], spD ⟨K, [t2, t5, t7, t8, t9]⟩ none 1 (Phi bodies 65 0 26), ?_, ?_, ?_, ?_, ?_, ?_⟩
  · intro p hp
    rcases List.mem_cons.mp hp with e | hp
    · subst e; exact tab_of TA (by decide) (PySem.W.mg_of X G a2) l2 rfl rfl h2
    rcases List.mem_cons.mp hp with e | hp
    · subst e; exact tab_of TA (by decide) (PySem.W.mg_of X G a5) l5 rfl rfl h5
    rcases List.mem_cons.mp hp with e | hp
    · subst e; exact tab_of TA (by decide) (PySem.W.mg_of X G a7) l7 rfl rfl h7
    rcases List.mem_cons.mp hp with e | hp
    · subst e; exact tab_of TA (by decide) (PySem.W.mg_of X G a8) l8 rfl rfl h8
    rcases List.mem_cons.mp hp with e | hp
    · subst e; exact tab_of TA (by decide) (PySem.W.mg_of X G a9) l9 rfl rfl h9
    exact absurd hp List.not_mem_nil
  · intro p hp
    rcases List.mem_cons.mp hp with e | hp
    · subst e; exact n2
    rcases List.mem_cons.mp hp with e | hp
    · subst e; exact n5
    rcases List.mem_cons.mp hp with e | hp
    · subst e; exact n7
    rcases List.mem_cons.mp hp with e | hp
    · subst e; exact n8
    rcases List.mem_cons.mp hp with e | hp
    · subst e; exact n9
    exact absurd hp List.not_mem_nil
  · intro p hp
    rcases List.mem_cons.mp hp with e | hp
    · subst e; exact PySem.W.codeHd_of_K X h2
    rcases List.mem_cons.mp hp with e | hp
    · subst e; exact PySem.W.codeHd_of_K X h5
    rcases List.mem_cons.mp hp with e | hp
    · subst e; exact PySem.W.codeHd_of_K X h7
    rcases List.mem_cons.mp hp with e | hp
    · subst e; exact PySem.W.codeHd_of_K X h8
    rcases List.mem_cons.mp hp with e | hp
    · subst e; exact PySem.W.codeHd_of_K X h9
    exact absurd hp List.not_mem_nil
  · exact fun s u => .of_eq rfl
  · refine law_sp ?_ law_data
    intro P hP
    rcases List.mem_cons.mp hP with e | hP
    · exact ⟨(c2, t2), List.mem_cons_self, e.symm⟩
    rcases List.mem_cons.mp hP with e | hP
    · exact ⟨(c5, t5), (List.mem_cons_of_mem _ List.mem_cons_self), e.symm⟩
    rcases List.mem_cons.mp hP with e | hP
    · exact ⟨(c7, t7), (List.mem_cons_of_mem _ (List.mem_cons_of_mem _ List.mem_cons_self)), e.symm⟩
    rcases List.mem_cons.mp hP with e | hP
    · exact ⟨(c8, t8), (List.mem_cons_of_mem _ (List.mem_cons_of_mem _ (List.mem_cons_of_mem _ List.mem_cons_self))), e.symm⟩
    rcases List.mem_cons.mp hP with e | hP
    · exact ⟨(c9, t9), (List.mem_cons_of_mem _ (List.mem_cons_of_mem _ (List.mem_cons_of_mem _ (List.mem_cons_of_mem _ List.mem_cons_self)))), e.symm⟩
    exact absurd hP List.not_mem_nil
  · intro base KB GB TB
    let ff : Nat → Addr := (fun i => match i with | 0 => f0 | 1 => f1 | 2 => f2 | 3 => f3 | 4 => f4 | 5 => f5 | 6 => f6 | 7 => f7 | 8 => f8 | 9 => f9 | 10 => f10 | 11 => f11 | 12 => f12 | 13 => f13 | 14 => f14 | 15 => f15 | 16 => f16 | 17 => f17 | 18 => f18 | 19 => f19 | 20 => f20 | 21 => f21 | 22 => f22 | 23 => f23 | 24 => f24 | 25 => f25 | _ => f26)
    let fd : Nat → FuncData := (fun i => match i with | 0 => (PySem.W.fnOf "webs" "webs" (defArgs st_0) (defBody st_0) (defScope st_0) .none kV0 dc0 pm0 an0 cd0 ct0) | 1 => (PySem.W.fnOf "number_of" "number_of" (defArgs st_1) (defBody st_1) (defScope st_1) .none kV1 dc1 pm1 an1 cd1 ct1) | 2 => (PySem.W.fnOf "missing" "missing" (defArgs st_2) (defBody st_2) (defScope st_2) .none kV2 dc2 pm2 an2 (.ref c2) ct2) | 3 => (PySem.W.fnOf "near" "near" (defArgs st_3) (defBody st_3) (defScope st_3) .none kV3 dc3 pm3 an3 cd3 ct3) | 4 => (PySem.W.fnOf "ways_from" "ways_from" (defArgs st_4) (defBody st_4) (defScope st_4) .none kV4 dc4 pm4 an4 cd4 ct4) | 5 => (PySem.W.fnOf "pieces" "pieces" (defArgs st_5) (defBody st_5) (defScope st_5) .none kV5 dc5 pm5 an5 (.ref c5) ct5) | 6 => (PySem.W.fnOf "ring_of" "ring_of" (defArgs st_6) (defBody st_6) (defScope st_6) .none kV6 dc6 pm6 an6 cd6 ct6) | 7 => (PySem.W.fnOf "sides_of" "sides_of" (defArgs st_7) (defBody st_7) (defScope st_7) .none kV7 dc7 pm7 an7 (.ref c7) ct7) | 8 => (PySem.W.fnOf "has_three" "has_three" (defArgs st_8) (defBody st_8) (defScope st_8) .none kV8 dc8 pm8 an8 (.ref c8) ct8) | 9 => (PySem.W.fnOf "has_shape" "has_shape" (defArgs st_9) (defBody st_9) (defScope st_9) .none kV9 dc9 pm9 an9 (.ref c9) ct9) | 10 => (PySem.W.fnOf "has_simple" "has_simple" (defArgs st_10) (defBody st_10) (defScope st_10) .none kV10 dc10 pm10 an10 cd10 ct10) | 11 => (PySem.W.fnOf "has" "has" (defArgs st_11) (defBody st_11) (defScope st_11) .none kV11 dc11 pm11 an11 cd11 ct11) | 12 => (PySem.W.fnOf "first_unlike" "first_unlike" (defArgs st_12) (defBody st_12) (defScope st_12) .none kV12 dc12 pm12 an12 cd12 ct12) | 13 => (PySem.W.fnOf "_law_pen" "_law_pen" (defArgs st_13) (defBody st_13) (defScope st_13) .none kV13 dc13 pm13 an13 cd13 ct13) | 14 => (PySem.W.fnOf "_law_take" "_law_take" (defArgs st_14) (defBody st_14) (defScope st_14) .none kV14 dc14 pm14 an14 cd14 ct14) | 15 => (PySem.W.fnOf "_law_frame" "_law_frame" (defArgs st_15) (defBody st_15) (defScope st_15) .none kV15 dc15 pm15 an15 cd15 ct15) | 16 => (PySem.W.fnOf "_law_webs" "_law_webs" (defArgs st_16) (defBody st_16) (defScope st_16) .none kV16 dc16 pm16 an16 cd16 ct16) | 17 => (PySem.W.fnOf "_law_reached" "_law_reached" (defArgs st_17) (defBody st_17) (defScope st_17) .none kV17 dc17 pm17 an17 cd17 ct17) | 18 => (PySem.W.fnOf "_law_two_sides" "_law_two_sides" (defArgs st_18) (defBody st_18) (defScope st_18) .none kV18 dc18 pm18 an18 cd18 ct18) | 19 => (PySem.W.fnOf "_law_facts" "_law_facts" (defArgs st_19) (defBody st_19) (defScope st_19) .none kV19 dc19 pm19 an19 cd19 ct19) | 20 => (PySem.W.fnOf "_law_plain" "_law_plain" (defArgs st_20) (defBody st_20) (defScope st_20) .none kV20 dc20 pm20 an20 cd20 ct20) | 21 => (PySem.W.fnOf "_law_all_facts" "_law_all_facts" (defArgs st_21) (defBody st_21) (defScope st_21) .none kV21 dc21 pm21 an21 cd21 ct21) | 22 => (PySem.W.fnOf "_law_table" "_law_table" (defArgs st_22) (defBody st_22) (defScope st_22) .none kV22 dc22 pm22 an22 cd22 ct22) | 23 => (PySem.W.fnOf "_law_plain_wish" "_law_plain_wish" (defArgs st_23) (defBody st_23) (defScope st_23) .none kV23 dc23 pm23 an23 cd23 ct23) | 24 => (PySem.W.fnOf "_law_wish" "_law_wish" (defArgs st_24) (defBody st_24) (defScope st_24) .none kV24 dc24 pm24 an24 cd24 ct24) | 25 => (PySem.W.fnOf "_law_beside" "_law_beside" (defArgs st_25) (defBody st_25) (defScope st_25) .none kV25 dc25 pm25 an25 cd25 ct25) | _ => (PySem.W.fnOf "law" "law" (defArgs st_26) (defBody st_26) (defScope st_26) .none kV26 dc26 pm26 an26 cd26 ct26))
    let cc : Nat → Addr := (fun i => match i with | 2 => c2 | 5 => c5 | 7 => c7 | 8 => c8 | 9 => c9 | _ => 0)
    let tP : Nat → Addr := (fun i => match i with | 2 => t2 | 5 => t5 | 7 => t7 | 8 => t8 | 9 => t9 | _ => 0)
    have T : FnsOk K mg (Fs ff fd) := by
      refine ⟨fun i e he => ?_⟩
      rcases i with _ | _ | _ | _ | _ | _ | _ | _ | _ | _ | _ | _ | _ | _ | _ | _ | _ | _ | _ | _ | _ | _ | _ | _ | _ | _ | _ | i
      · obtain rfl := Option.some.inj he
        exact ⟨PySem.W.mg_of X G a0, k0, (fun_mk (st := st_0) l0 e0 k0).binds (ps := ["frame"]) fun _ _ _ _ _ _ us hl => match us, hl with | [_], _ => rfl⟩
      · obtain rfl := Option.some.inj he
        exact ⟨PySem.W.mg_of X G a1, k1, (fun_mk (st := st_1) l1 e1 k1).binds (ps := ["frame", "web"]) fun _ _ _ _ _ _ us hl => match us, hl with | [_, _], _ => rfl⟩
      · obtain rfl := Option.some.inj he
        exact ⟨PySem.W.mg_of X G a2, k2, (fun_mk (st := st_2) l2 e2 k2).binds (ps := ["frame", "web"]) fun _ _ _ _ _ _ us hl => match us, hl with | [_, _], _ => rfl⟩
      · obtain rfl := Option.some.inj he
        exact ⟨PySem.W.mg_of X G a3, k3, (fun_mk (st := st_3) l3 e3 k3).binds (ps := ["web", "place"]) fun _ _ _ _ _ _ us hl => match us, hl with | [_, _], _ => rfl⟩
      · obtain rfl := Option.some.inj he
        exact ⟨PySem.W.mg_of X G a4, k4, (fun_mk (st := st_4) l4 e4 k4).binds (ps := ["web", "start"]) fun _ _ _ _ _ _ us hl => match us, hl with | [_, _], _ => rfl⟩
      · obtain rfl := Option.some.inj he
        exact ⟨PySem.W.mg_of X G a5, k5, (fun_mk (st := st_5) l5 e5 k5).binds (ps := ["frame", "web"]) fun _ _ _ _ _ _ us hl => match us, hl with | [_, _], _ => rfl⟩
      · obtain rfl := Option.some.inj he
        exact ⟨PySem.W.mg_of X G a6, k6, (fun_mk (st := st_6) l6 e6 k6).binds (ps := ["frame", "web"]) fun _ _ _ _ _ _ us hl => match us, hl with | [_, _], _ => rfl⟩
      · obtain rfl := Option.some.inj he
        exact ⟨PySem.W.mg_of X G a7, k7, (fun_mk (st := st_7) l7 e7 k7).binds (ps := ["frame", "web"]) fun _ _ _ _ _ _ us hl => match us, hl with | [_, _], _ => rfl⟩
      · obtain rfl := Option.some.inj he
        exact ⟨PySem.W.mg_of X G a8, k8, (fun_mk (st := st_8) l8 e8 k8).binds (ps := ["web"]) fun _ _ _ _ _ _ us hl => match us, hl with | [_], _ => rfl⟩
      · obtain rfl := Option.some.inj he
        exact ⟨PySem.W.mg_of X G a9, k9, (fun_mk (st := st_9) l9 e9 k9).binds (ps := ["frame", "word", "web"]) fun _ _ _ _ _ _ us hl => match us, hl with | [_, _, _], _ => rfl⟩
      · obtain rfl := Option.some.inj he
        exact ⟨PySem.W.mg_of X G a10, k10, (fun_mk (st := st_10) l10 e10 k10).binds (ps := ["frame", "wish", "web"]) fun _ _ _ _ _ _ us hl => match us, hl with | [_, _, _], _ => rfl⟩
      · obtain rfl := Option.some.inj he
        exact ⟨PySem.W.mg_of X G a11, k11, (fun_mk (st := st_11) l11 e11 k11).binds (ps := ["frame", "wish", "web"]) fun _ _ _ _ _ _ us hl => match us, hl with | [_, _, _], _ => rfl⟩
      · obtain rfl := Option.some.inj he
        exact ⟨PySem.W.mg_of X G a12, k12, (fun_mk (st := st_12) l12 e12 k12).binds (ps := ["frame", "wish", "other"]) fun _ _ _ _ _ _ us hl => match us, hl with | [_, _, _], _ => rfl⟩
      · obtain rfl := Option.some.inj he
        exact ⟨PySem.W.mg_of X G a13, k13, (fun_mk (st := st_13) l13 e13 k13).binds (ps := ["_law_script", "_law_k"]) fun _ _ _ _ _ _ us hl => match us, hl with | [_, _], _ => rfl⟩
      · obtain rfl := Option.some.inj he
        exact ⟨PySem.W.mg_of X G a14, k14, (fun_mk (st := st_14) l14 e14 k14).binds (ps := ["_law_pen_here", "_law_many"]) fun _ _ _ _ _ _ us hl => match us, hl with | [_, _], _ => rfl⟩
      · obtain rfl := Option.some.inj he
        exact ⟨PySem.W.mg_of X G a15, k15, (fun_mk (st := st_15) l15 e15 k15).binds (ps := ["_law_pen_here", "_law_most"]) fun _ _ _ _ _ _ us hl => match us, hl with | [_, _], _ => rfl⟩
      · obtain rfl := Option.some.inj he
        exact ⟨PySem.W.mg_of X G a16, k16, (fun_mk (st := st_16) l16 e16 k16).binds (ps := ["_law_frame_here"]) fun _ _ _ _ _ _ us hl => match us, hl with | [_], _ => rfl⟩
      · obtain rfl := Option.some.inj he
        exact ⟨PySem.W.mg_of X G a17, k17, (fun_mk (st := st_17) l17 e17 k17).binds (ps := ["_law_web", "_law_place"]) fun _ _ _ _ _ _ us hl => match us, hl with | [_, _], _ => rfl⟩
      · obtain rfl := Option.some.inj he
        exact ⟨PySem.W.mg_of X G a18, k18, (fun_mk (st := st_18) l18 e18 k18).binds (ps := ["_law_frame_here", "_law_web"]) fun _ _ _ _ _ _ us hl => match us, hl with | [_, _], _ => rfl⟩
      · obtain rfl := Option.some.inj he
        exact ⟨PySem.W.mg_of X G a19, k19, (fun_mk (st := st_19) l19 e19 k19).binds (ps := ["_law_frame_here", "_law_web"]) fun _ _ _ _ _ _ us hl => match us, hl with | [_, _], _ => rfl⟩
      · obtain rfl := Option.some.inj he
        exact ⟨PySem.W.mg_of X G a20, k20, (fun_mk (st := st_20) l20 e20 k20).binds (ps := ["_law_facts_here", "_law_wish_here"]) fun _ _ _ _ _ _ us hl => match us, hl with | [_, _], _ => rfl⟩
      · obtain rfl := Option.some.inj he
        exact ⟨PySem.W.mg_of X G a21, k21, (fun_mk (st := st_21) l21 e21 k21).binds (ps := ["_law_frame_here"]) fun _ _ _ _ _ _ us hl => match us, hl with | [_], _ => rfl⟩
      · obtain rfl := Option.some.inj he
        exact ⟨PySem.W.mg_of X G a22, k22, (fun_mk (st := st_22) l22 e22 k22).binds (ps := ["_law_facts_here", "_law_wish_here"]) fun _ _ _ _ _ _ us hl => match us, hl with | [_, _], _ => rfl⟩
      · obtain rfl := Option.some.inj he
        exact ⟨PySem.W.mg_of X G a23, k23, (fun_mk (st := st_23) l23 e23 k23).binds (ps := ["_law_pen_here", "_law_frame_here"]) fun _ _ _ _ _ _ us hl => match us, hl with | [_, _], _ => rfl⟩
      · obtain rfl := Option.some.inj he
        exact ⟨PySem.W.mg_of X G a24, k24, (fun_mk (st := st_24) l24 e24 k24).binds (ps := ["_law_pen_here", "_law_frame_here", "_law_room"]) fun _ _ _ _ _ _ us hl => match us, hl with | [_, _, _], _ => rfl⟩
      · obtain rfl := Option.some.inj he
        exact ⟨PySem.W.mg_of X G a25, k25, (fun_mk (st := st_25) l25 e25 k25).binds (ps := ["_law_pen_here", "_law_frame_here", "_law_wish_here", "_law_truths"]) fun _ _ _ _ _ _ us hl => match us, hl with | [_, _, _, _], _ => rfl⟩
      · obtain rfl := Option.some.inj he
        exact ⟨PySem.W.mg_of X G a26, k26, (fun_mk (st := st_26) l26 e26 k26).binds (ps := ["_law_script"]) fun _ _ _ _ _ _ us hl => match us, hl with | [_], _ => rfl⟩
      · simp [Fs] at he
    have F : Fa K mg base ff fd cc tP := ⟨PySem.W.mg_none_of X G z_abs, PySem.W.mg_none_of X G z_any, PySem.W.mg_none_of X G z_int, PySem.W.mg_none_of X G z_len, PySem.W.mg_none_of X G z_list, PySem.W.mg_none_of X G z_max, PySem.W.mg_none_of X G z_min, PySem.W.mg_none_of X G z_range, PySem.W.mg_none_of X G z_repr, PySem.W.mg_none_of X G z_sorted, PySem.W.mg_none_of X G z_sum, PySem.W.mg_none_of X G z_tuple, PySem.W.mg_none_of X G z_zip, T, TB (c2, t2) List.mem_cons_self, List.mem_cons_self, TB (c5, t5) (List.mem_cons_of_mem _ List.mem_cons_self), (List.mem_cons_of_mem _ List.mem_cons_self), TB (c7, t7) (List.mem_cons_of_mem _ (List.mem_cons_of_mem _ List.mem_cons_self)), (List.mem_cons_of_mem _ (List.mem_cons_of_mem _ List.mem_cons_self)), TB (c8, t8) (List.mem_cons_of_mem _ (List.mem_cons_of_mem _ (List.mem_cons_of_mem _ List.mem_cons_self))), (List.mem_cons_of_mem _ (List.mem_cons_of_mem _ (List.mem_cons_of_mem _ List.mem_cons_self))), TB (c9, t9) (List.mem_cons_of_mem _ (List.mem_cons_of_mem _ (List.mem_cons_of_mem _ (List.mem_cons_of_mem _ List.mem_cons_self)))), (List.mem_cons_of_mem _ (List.mem_cons_of_mem _ (List.mem_cons_of_mem _ (List.mem_cons_of_mem _ List.mem_cons_self))))⟩
    have LL := phi_ok (P := PySem.Challenge.rw_allasked_k15_the_first_web_unlike.prog) (w := w) (K := K) (mg := mg) (base := base) (CX := CX0) (wn := ⟨K, Tabs tP⟩) (cl := none) (fs := Fs ff fd) (bs := bodies) (by
      intro k lv L i e b he hb
      rcases i with _ | _ | _ | _ | _ | _ | _ | _ | _ | _ | _ | _ | _ | _ | _ | _ | _ | _ | _ | _ | _ | _ | _ | _ | _ | _ | _ | i
      · obtain rfl := Option.some.inj he
        obtain rfl := Option.some.inj hb
        exact fn_ok0 l0 e0 sc_0 fun A outer s H E hr => bd_0 F L hr
      · obtain rfl := Option.some.inj he
        obtain rfl := Option.some.inj hb
        exact fn_ok0 l1 e1 sc_1 fun A outer s H E hr => bd_1 F L hr
      · obtain rfl := Option.some.inj he
        obtain rfl := Option.some.inj hb
        exact fn_ok0 l2 e2 sc_2 fun A outer s H E hr => bd_2 F L hr
      · obtain rfl := Option.some.inj he
        obtain rfl := Option.some.inj hb
        exact fn_ok0 l3 e3 sc_3 fun A outer s H E hr => bd_3 F L hr
      · obtain rfl := Option.some.inj he
        obtain rfl := Option.some.inj hb
        exact fn_ok0 l4 e4 sc_4 fun A outer s H E hr => bd_4 F L hr
      · obtain rfl := Option.some.inj he
        obtain rfl := Option.some.inj hb
        exact fn_ok0 l5 e5 sc_5 fun A outer s H E hr => bd_5 F L hr
      · obtain rfl := Option.some.inj he
        obtain rfl := Option.some.inj hb
        exact fn_ok0 l6 e6 sc_6 fun A outer s H E hr => bd_6 F L hr
      · obtain rfl := Option.some.inj he
        obtain rfl := Option.some.inj hb
        exact fn_ok0 l7 e7 sc_7 fun A outer s H E hr => bd_7 F L hr
      · obtain rfl := Option.some.inj he
        obtain rfl := Option.some.inj hb
        exact fn_ok0 l8 e8 sc_8 fun A outer s H E hr => bd_8 F L hr
      · obtain rfl := Option.some.inj he
        obtain rfl := Option.some.inj hb
        exact fn_ok0 l9 e9 sc_9 fun A outer s H E hr => bd_9 F L hr
      · obtain rfl := Option.some.inj he
        obtain rfl := Option.some.inj hb
        exact fn_ok0 l10 e10 sc_10 fun A outer s H E hr => bd_10 F L hr
      · obtain rfl := Option.some.inj he
        obtain rfl := Option.some.inj hb
        exact fn_ok0 l11 e11 sc_11 fun A outer s H E hr => bd_11 F L hr
      · obtain rfl := Option.some.inj he
        obtain rfl := Option.some.inj hb
        exact fn_ok0 l12 e12 sc_12 fun A outer s H E hr => bd_12 F L hr
      · obtain rfl := Option.some.inj he
        obtain rfl := Option.some.inj hb
        exact fn_ok0 l13 e13 sc_13 fun A outer s H E hr => bd_13 F L hr
      · obtain rfl := Option.some.inj he
        obtain rfl := Option.some.inj hb
        exact fn_ok0 l14 e14 sc_14 fun A outer s H E hr => bd_14 F L hr
      · obtain rfl := Option.some.inj he
        obtain rfl := Option.some.inj hb
        exact fn_ok0 l15 e15 sc_15 fun A outer s H E hr => bd_15 F L hr
      · obtain rfl := Option.some.inj he
        obtain rfl := Option.some.inj hb
        exact fn_ok0 l16 e16 sc_16 fun A outer s H E hr => bd_16 F L hr
      · obtain rfl := Option.some.inj he
        obtain rfl := Option.some.inj hb
        exact fn_ok0 l17 e17 sc_17 fun A outer s H E hr => bd_17 F L hr
      · obtain rfl := Option.some.inj he
        obtain rfl := Option.some.inj hb
        exact fn_ok0 l18 e18 sc_18 fun A outer s H E hr => bd_18 F L hr
      · obtain rfl := Option.some.inj he
        obtain rfl := Option.some.inj hb
        exact fn_ok0 l19 e19 sc_19 fun A outer s H E hr => bd_19 F L hr
      · obtain rfl := Option.some.inj he
        obtain rfl := Option.some.inj hb
        exact fn_ok0 l20 e20 sc_20 fun A outer s H E hr => bd_20 F L hr
      · obtain rfl := Option.some.inj he
        obtain rfl := Option.some.inj hb
        exact fn_ok0 l21 e21 sc_21 fun A outer s H E hr => bd_21 F L hr
      · obtain rfl := Option.some.inj he
        obtain rfl := Option.some.inj hb
        exact fn_ok0 l22 e22 sc_22 fun A outer s H E hr => bd_22 F L hr
      · obtain rfl := Option.some.inj he
        obtain rfl := Option.some.inj hb
        exact fn_ok0 l23 e23 sc_23 fun A outer s H E hr => bd_23 F L hr
      · obtain rfl := Option.some.inj he
        obtain rfl := Option.some.inj hb
        exact fn_ok0 l24 e24 sc_24 fun A outer s H E hr => bd_24 F L hr
      · obtain rfl := Option.some.inj he
        obtain rfl := Option.some.inj hb
        exact fn_ok0 l25 e25 sc_25 fun A outer s H E hr => bd_25 F L hr
      · obtain rfl := Option.some.inj he
        obtain rfl := Option.some.inj hb
        exact fn_ok0 l26 e26 sc_26 fun A outer s H E hr => bd_26 F L hr
      · simp [Fs] at he) 65
    exact LL.ok 0 (Nat.zero_le _) 26 _ rfl
end Kj
open PySem PySem.W PyProof.Rows
set_option maxRecDepth 100000 in
set_option maxHeartbeats 0 in
theorem PySem.Challenge.cw_allasked_k15_the_first_web_unlike_holds : PySem.Challenge.rw_allasked_k15_the_first_web_unlike.Holds := by
  w_on; o_law; k_head; (case hw => w_witness2)
  k_fill
  refine Dv.walk_all (l := PySem.Challenge.rw_allasked_k15_the_first_web_unlike) (n := 63) (k := 65) (x := "_law_script") (CX := fun _ => L2.CX0) ["missing", "pieces", "sides_of", "has_three", "has_shape"] rfl (by decide) rfl ⟨⟨rfl, by decide, by decide⟩, rfl⟩ (by decide +kernel) (fun w h Y => PySem.W.kIn_of Y) ?F (fun _ _ _ _ _ z => z)
  case F =>
    intro w mg fa h Y KX G hmg TA
    refine' Kj.all_mk KX G hmg TA ?a0 ?l0 ?e0 ?k0 ?a1 ?l1 ?e1 ?k1 ?a2 ?l2 ?e2 ?k2 ?a3 ?l3 ?e3 ?k3 ?a4 ?l4 ?e4 ?k4 ?a5 ?l5 ?e5 ?k5 ?a6 ?l6 ?e6 ?k6 ?a7 ?l7 ?e7 ?k7 ?a8 ?l8 ?e8 ?k8 ?a9 ?l9 ?e9 ?k9 ?a10 ?l10 ?e10 ?k10 ?a11 ?l11 ?e11 ?k11 ?a12 ?l12 ?e12 ?k12 ?a13 ?l13 ?e13 ?k13 ?a14 ?l14 ?e14 ?k14 ?a15 ?l15 ?e15 ?k15 ?a16 ?l16 ?e16 ?k16 ?a17 ?l17 ?e17 ?k17 ?a18 ?l18 ?e18 ?k18 ?a19 ?l19 ?e19 ?k19 ?a20 ?l20 ?e20 ?k20 ?a21 ?l21 ?e21 ?k21 ?a22 ?l22 ?e22 ?k22 ?a23 ?l23 ?e23 ?k23 ?a24 ?l24 ?e24 ?k24 ?a25 ?l25 ?e25 ?k25 ?a26 ?l26 ?e26 ?k26 ?u2 ?p2 ?h2 ?n2 ?u5 ?p5 ?h5 ?n5 ?u7 ?p7 ?h7 ?n7 ?u8 ?p8 ?h8 ?n8 ?u9 ?p9 ?h9 ?n9 ?z_abs ?z_any ?z_int ?z_len ?z_list ?z_max ?z_min ?z_range ?z_repr ?z_sorted ?z_sum ?z_tuple ?z_zip
    (case a0 => k_is)
    (case l0 => k_is)
    (case e0 => k_is)
    (case k0 => k_is)
    (case a1 => k_is)
    (case l1 => k_is)
    (case e1 => k_is)
    (case k1 => k_is)
    (case a2 => k_is)
    (case l2 => k_is)
    (case e2 => k_is)
    (case k2 => k_is)
    (case a3 => k_is)
    (case l3 => k_is)
    (case e3 => k_is)
    (case k3 => k_is)
    (case a4 => k_is)
    (case l4 => k_is)
    (case e4 => k_is)
    (case k4 => k_is)
    (case a5 => k_is)
    (case l5 => k_is)
    (case e5 => k_is)
    (case k5 => k_is)
    (case a6 => k_is)
    (case l6 => k_is)
    (case e6 => k_is)
    (case k6 => k_is)
    (case a7 => k_is)
    (case l7 => k_is)
    (case e7 => k_is)
    (case k7 => k_is)
    (case a8 => k_is)
    (case l8 => k_is)
    (case e8 => k_is)
    (case k8 => k_is)
    (case a9 => k_is)
    (case l9 => k_is)
    (case e9 => k_is)
    (case k9 => k_is)
    (case a10 => k_is)
    (case l10 => k_is)
    (case e10 => k_is)
    (case k10 => k_is)
    (case a11 => k_is)
    (case l11 => k_is)
    (case e11 => k_is)
    (case k11 => k_is)
    (case a12 => k_is)
    (case l12 => k_is)
    (case e12 => k_is)
    (case k12 => k_is)
    (case a13 => k_is)
    (case l13 => k_is)
    (case e13 => k_is)
    (case k13 => k_is)
    (case a14 => k_is)
    (case l14 => k_is)
    (case e14 => k_is)
    (case k14 => k_is)
    (case a15 => k_is)
    (case l15 => k_is)
    (case e15 => k_is)
    (case k15 => k_is)
    (case a16 => k_is)
    (case l16 => k_is)
    (case e16 => k_is)
    (case k16 => k_is)
    (case a17 => k_is)
    (case l17 => k_is)
    (case e17 => k_is)
    (case k17 => k_is)
    (case a18 => k_is)
    (case l18 => k_is)
    (case e18 => k_is)
    (case k18 => k_is)
    (case a19 => k_is)
    (case l19 => k_is)
    (case e19 => k_is)
    (case k19 => k_is)
    (case a20 => k_is)
    (case l20 => k_is)
    (case e20 => k_is)
    (case k20 => k_is)
    (case a21 => k_is)
    (case l21 => k_is)
    (case e21 => k_is)
    (case k21 => k_is)
    (case a22 => k_is)
    (case l22 => k_is)
    (case e22 => k_is)
    (case k22 => k_is)
    (case a23 => k_is)
    (case l23 => k_is)
    (case e23 => k_is)
    (case k23 => k_is)
    (case a24 => k_is)
    (case l24 => k_is)
    (case e24 => k_is)
    (case k24 => k_is)
    (case a25 => k_is)
    (case l25 => k_is)
    (case e25 => k_is)
    (case k25 => k_is)
    (case a26 => k_is)
    (case l26 => k_is)
    (case e26 => k_is)
    (case k26 => k_is)
    (case u2 => k_is)
    (case p2 => rfl)
    (case h2 => kernel_rfl)
    (case n2 => kernel_rfl)
    (case u5 => k_is)
    (case p5 => rfl)
    (case h5 => kernel_rfl)
    (case n5 => kernel_rfl)
    (case u7 => k_is)
    (case p7 => rfl)
    (case h7 => kernel_rfl)
    (case n7 => kernel_rfl)
    (case u8 => k_is)
    (case p8 => rfl)
    (case h8 => kernel_rfl)
    (case n8 => kernel_rfl)
    (case u9 => k_is)
    (case p9 => rfl)
    (case h9 => kernel_rfl)
    (case n9 => kernel_rfl)
    (case z_abs => k_is)
    (case z_any => k_is)
    (case z_int => k_is)
    (case z_len => k_is)
    (case z_list => k_is)
    (case z_max => k_is)
    (case z_min => k_is)
    (case z_range => k_is)
    (case z_repr => k_is)
    (case z_sorted => k_is)
    (case z_sum => k_is)
    (case z_tuple => k_is)
    (case z_zip => k_is)

