import PyProof.Rows.All
import Wide.All
import OpenK.AllK
import Wide.FinOn
import KE.KStateDown
import KE.KIsAll
import KE.KTryMore
import PyProof.ReprRoads
import HandS.ForMost
import HandS.Defaults
import HandS.ExcInit
import HandS.ExcField
import HandS.ExcIs
import HandS.IsInst
import HandS.WideBits
import HandS.Zip
import HandS.TupAny
import HandS.More
import HandS.Dict
import KE.LtSeq
import KE.DataEq
import HandS.DictTup
import HandS.Style
import KE.KRevSl
import HandS.Head0
import HandS.Head1
import HandS.Head2
import HandS.HeadEnd
import HandS.HeadHook1
import HandS.HeadHook2
import PySem.Challenge.RW_bykindalone_k03_whole_values_and_their_o
set_option Elab.async false
set_option linter.all false
set_option maxRecDepth 100000
set_option maxHeartbeats 4100000
namespace KB
open PySem L2 PySem.Spec PyProof.Rows
/-! ### defs that show things: promised where nothing is being shown around the call -/
def RunG (P : Program) (w : World) (K : PySem.W.Frag) (mg : Str → Option Value) (base : Heap) (k : Nat) (f : Addr) (fd : FuncData) (ps : List Str) (sp : Sp) : Prop :=
  ∀ (A : Around) (outer : List Env) (s : Shared) (H : Hp) (args : Args) (us : List Value) (vs : List V) (Q : VK),
    A.guards = some [] → Room k A → Env0 P w K mg base A outer s H → BindsTo s fd args (ps.zip us) → Vals vs us → sp vs H Q E0 →
      codeAny (model P w) A (.call (.ref f) args) (fun r z => CR CX0 outer P w H s Q E0 r z) s
structure FnG (P : Program) (w : World) (K : PySem.W.Frag) (mg : Str → Option Value) (base : Heap) (k : Nat) (f : Addr) (fd : FuncData) (ps : List Str) (sp : Sp) : Prop where
  many : ∀ vs H Q, sp vs H Q E0 → vs.length = ps.length
  go : RunG P w K mg base k f fd ps sp
/-- what any promise is worth there -/
theorem FnG.of {P : Program} {w : World} {K : PySem.W.Frag} {mg : Str → Option Value} {base : Heap} {k : Nat} {f : Addr} {fd : FuncData} {ps : List Str} {sp : Sp}
    (F : FnOk P w K mg base CX0 k f fd ps sp) : FnG P w K mg base k f fd ps sp :=
  ⟨fun vs H Q h => F.len vs H Q _ h, fun A o s H a us vs Q _ hr e b v h => F.run A o s H a us vs Q _ hr e b v h⟩
section
variable {X : Cx} {k : Nat} {f : Addr} {fd : FuncData} {ps : List Str} {sp : Sp} {dvs : List V} {ds : List Value}
theorem runG {pins : List (Addr × Obj)} {σ : L2.St} {H : Hp} {s : Shared} {Q : VK} {us : List Value} {vs : List V}
    (F : FnG X.prog X.w X.K X.mg X.base k f fd ps sp) (hg : X.A.guards = some []) (hr : Room k X.A) (hb : Binds X.K fd ps ds) (hd : Vals dvs ds)
    (I : Inv X pins σ H s) (r : Vals vs us) (h : sp (vs ++ dvs) H Q E0) : wpAny (model X.prog X.w) X.A (call (.ref f) us) (EP X pins σ Q) X.xe s := by
  have both := r.append hd
  have hl : (us ++ ds).length = ps.length := both.length.symm.trans (F.many _ _ _ h)
  have body := F.go X.A X.stack s H ⟨us, []⟩ _ _ Q hg hr I.env0 (hb s us I.kIn hl) both h
  refine wpAny_call (codeAny_mono body fun r z hq => ?_)
  match r, hq with
  | .ok (.ret u), hq => exact I.after hq
/-- f(e, ..) of such a def -/
theorem pe_callG {x : Str} {p pos : Pos} {e : Expr} {es : List Expr} {t : TA} (F : FnG X.prog X.w X.K X.mg X.base k f fd ps sp) (hgd : X.A.guards = some []) (hr : Room k X.A)
    (hg : Gl X x) (hm : X.mg x = some (.ref f)) (hk : PySem.W.keepIn X.K (.ref f) = true) (hb : Binds X.K fd ps ds) (hd : Vals dvs ds) (ha : PA X (e :: es) t) (hdb : (x == ("__debug__" : Str)) = false := by decide) (he : starEach (e :: es) X.env = (false, eval e X.env) :: starEach es X.env := by rfl)
    (hpl : (backTo pos (starEach es X.env)).any (·.1) = false := by rfl) : PE X (.Call (.Name x p) (e :: es) [] pos) (tCall sp dvs E0 t) :=
  ⟨fun pins s σ H Q I h => wpAny_Call_Name_kw (ld_glob I hg hm (PySem.W.callWith_K (h₀ := X.base) I.ok.mod.kin hk
    (thn (ha.run pos pins s σ H _ I h) fun us s1 ⟨vs, H1, I1, r, q⟩ => ⟨I1.kIn, runG F hgd hr hb hd I1 r q⟩) he hpl) hdb)⟩
end
/-- THE RULE for such a def, by its body -/
theorem okG {P : Program} {w : World} {K : PySem.W.Frag} {mg : Str → Option Value} {base : Heap} {x qual : Str} {params : Arguments} {body : List Stmt} {scope : Scope} {dvs : List V} {kws : List (Str × V)}
    {f : Addr} {fd : FuncData} {N ps : List Str} {k : Nat} {sp : Sp} (F : FunD K x qual params body scope dvs kws f fd) (S : FnScope N ps scope)
    (many : ∀ vs H Q, sp vs H Q E0 → vs.length = ps.length)
    (hbody : ∀ (cdv : Value) (A : Around) (outer : List Env) (s : Shared) (H : Hp) (vs : List V) (Q : VK),
      (A.deeper (envOfC qual scope s.heap.objs.size f cdv)).guards = some [] → Room k (A.deeper (envOfC qual scope s.heap.objs.size f cdv)) → sp vs H Q E0 →
      ∃ t, PSs (cxOf CX0 P w K mg base N qual scope f cdv A outer s H E0).nox body t ∧ t { nx := fun _ H' => Q .non H', rt := Q } (start N vs) H) :
    FnG P w K mg base (k + 1) f fd ps sp := by
  obtain ⟨oc, od, dV, kV, doc, pm, an, cdv, ct, osl, rfl, lk, hcd, _, _⟩ := F.ex; refine ⟨many, ?_⟩
  intro A outer s H args us vs Q hgd hr e0 hb r hsp
  have old : ∀ b o, base.get? b = some o → s.heap.get? b = some o := fun b o e => (e0.bs b o e).1
  have KX : K.In s.heap := e0.mod.kin.keeps old
  have slots : ∀ y ∈ ps.zip us, scope.names.lookup y.1 = some .local ∨
      (scope.names.lookup y.1 = some .cell ∧ ((cellsFrom (s.heap.objs.size + 1) scope.names []).lookup y.1).isSome = true) := by
    intro y hy
    cases S.par y.1 (List.of_mem_zip (show (y.1, y.2) ∈ ps.zip us from hy)).1 with
    | inl q => exact .inl q
    | inr q => exact .inr ⟨q, PySem.W.cellsFrom_some _ _ _ (.inl q)⟩
  refine codeAny_call_function hr.depth (KX _ _ lk) rfl S.co S.gen rfl (PySem.W.codeRec_of KX hcd) (hb _ _ _ _ ?_); refine wpAny_newFunctionEnv_cells S.kind slots fun env he s1 ic => ?_
  subst he
  refine ⟨(e0.mod.nolimit.keeps old).keeps ic.toInCall.keep, codeAny_func ?_⟩
  obtain ⟨t, ht, hq⟩ := hbody cdv A outer s H vs Q hgd (hr.deeper _) hsp
  have I : Inv (cxOf CX0 P w K mg base N qual scope f cdv A outer s H E0) [] (start N vs) H s1 := inv_start S hr.hd e0 (many _ _ _ hsp) r ic
  refine wpAny_mono (ht.nox.run [] s1 (start N vs) H _ I hq) (fun fl s' hs => ?_) fun e s' hs => hs
  match fl, hs with
  | .ret u, ⟨v, σ', H', J, rv, q⟩ => exact ⟨v, H', J.os, J.bare, J.base, J.hok, rv, q⟩
  | .next, ⟨σ', H', J, q⟩ => exact ⟨V.non, H', J.os, J.bare, J.base, J.hok, rfl, q⟩
  | .brk, ⟨_, _, _, q⟩ => exact q.elim
  | .cont, ⟨_, _, _, q⟩ => exact q.elim
/-! ### the law's own call -/
theorem law_callG {P : Program} {w : World} {K : PySem.W.Frag} {mg mb : Str → Option Value} {k : Nat} {fa a : Addr} {fd : FuncData} {x : Str} {sp : Sp} {z : Shared} {vs : List Value} {ns : List Int}
    (KX : K.In z.heap) (hns : z.heap.Ns mainGlobals mg) (hb : z.heap.Ns builtinsNs mb) (hbb : ∀ x : Str, x ≠ "__name__" → mb x = bootBuiltins x) (hlim : z.heap.NoLimit) (hg : z.gens = #[])
    (ha : z.heap.get? a = some { cls := .type "list", data := .seq vs.toArray }) (hi : IntsAre vs ns) (hl : ns.length ≤ sizeLine) (hr : Room k callerA)
    (F : ∀ base : Heap, K.In base → base.Ns mainGlobals mg → FnG P w K mg base k fa fd [x] sp) (hbind : ∀ (s : Shared) (u : Value), BindsTo s fd ⟨[u], []⟩ [(x, u)])
    (hsp : ∀ H : Hp, Only H → SqL K H a (ns.map V.int) → sp [.ref a] H (fun v _ => v = .bl true) E0) :
    codeAny (model P w) callerA (.call (.ref fa) ⟨[.ref a], []⟩) (fun r s' => r = .ok (.ret (.bool true)) ∧ OldK z.heap s'.heap ∧ s'.os = z.os ∧ AllBare s'.gens) z := by
  have rv := vals_ints hi
  have many := hi.length
  have core : ∀ H : Hp, Only H → SqL K H a (ns.map V.int) → HOk P w H z.heap → (∀ b, H b ≠ none → b = a) → (H a ≠ none → K.lookup a = none) →
      codeAny (model P w) callerA (.call (.ref fa) ⟨[.ref a], []⟩) (fun r s' => r = .ok (.ret (.bool true)) ∧ OldK z.heap s'.heap ∧ s'.os = z.os ∧ AllBare s'.gens) z := by
    intro H hO hS hok hA hK
    have atA : ∀ {b : Addr}, H b ≠ none → z.heap.get? b = some { cls := .type "list", data := .seq vs.toArray } := fun {b} q => by rw [hA b q]; exact ha
    have dictFree : ∀ {b : Addr} {o : Obj} {es : Array DictEntry} {ep : Nat}, z.heap.get? b = some o → o.data = .dict es ep → H b = none := by
      intro b o es ep e d
      by_cases q : H b = none
      · exact q
      · rw [atA q] at e
        cases e
        cases (show Data.seq vs.toArray _ = Data.dict es ep from d)
    have nsK : ∀ {b : Addr} {m : Str → Option Value}, z.heap.Ns b m → (hidT z.heap H).Ns b m :=
      fun ⟨o, es, ep, e, d, r⟩ => ⟨o, es, ep, hidT_get e (dictFree e d), d, r⟩
    have inB : K.In (hidT z.heap H) := by
      intro b o e
      refine hidT_get (KX b o e) ?_
      by_cases q : H b = none
      · exact q
      · have eb := hA b q
        subst eb
        rw [hK q] at e
        cases e
    obtain ⟨mc, lim1, lim2⟩ := hlim
    have M : Mod K mg (hidT z.heap H) := ⟨inB, nsK hns, ⟨mb, nsK hb, hbb⟩, ⟨mc, nsK lim1, lim2⟩⟩
    have e0 : Env0 P w K mg (hidT z.heap H) callerA [] z H :=
      { frames := rfl, mod := M, bs := fun b o e => of_hidT e, bsz := Nat.le_of_eq (hidT_size _ _), funs := trivial, frf := fun b q => (by cases (show b ∈ ([] : List Addr) from q)), hok := hok, bare := .of_eq hg }
    have run := (F _ inB (nsK hns)).go callerA [] z H ⟨[.ref a], []⟩ [.ref a] [.ref a] (fun v _ => v = .bl true) rfl hr e0 (hbind z (.ref a)) (.cons rfl .nil) (hsp H hO hS)
    refine codeAny_mono run fun r s' h => ?_
    match r, h with
    | .ok (.ret u), ⟨v, H', os, bare, un, hok', r', q⟩ =>
      subst q
      obtain rfl : u = Value.bool true := r'; refine ⟨rfl, OldK.of_keep fun b o e => ?_, os, bare⟩
      by_cases q : H b = none
      · exact un.keep b o e q (fun y => by cases (show b ∈ ([] : List Addr) from y)) (fun y => by cases y)
      · rcases hO b with y | ⟨ob, xs, y⟩
        · exact absurd y q
        · have g1 := (hok b _ y).1
          have g2 := (hok' b _ (un.frzs b ob _ y)).1
          rw [e] at g1
          cases g1
          exact g2
  by_cases hk : K.lookup a = none
  · have at1 : ∀ b, (if b = a then some (HO.frz { cls := .type "list", data := .seq vs.toArray } (.lst (ns.map V.int))) else none) ≠ none → b = a := fun b q => by
      by_cases hb : b = a
      · exact hb
      · exact absurd (if_neg hb) q
    refine core (fun b => if b = a then some (.frz { cls := .type "list", data := .seq vs.toArray } (.lst (ns.map V.int))) else none) (fun b => ?_) (.inl (.inr ⟨{ cls := .type "list", data := .seq vs.toArray }, if_pos rfl⟩)) (fun b u q => ?_) at1 fun _ => hk
    · by_cases hb : b = a
      · exact Or.inr ⟨_, _, if_pos hb⟩
      · exact .inl (if_neg hb)
    · have hb := at1 b (fun y => nomatch q.symm.trans y)
      have q2 := (if_pos hb).symm.trans q
      cases q2
      subst hb; exact ⟨ha, by rw [List.length_map]; exact hl, vs, _, rv, ha⟩
  · cases hk2 : K.lookup a with
    | none => exact absurd hk2 hk
    | some o =>
      have e := KX a o hk2
      rw [ha] at e
      cases e
      refine core (fun _ => none) (fun _ => .inl rfl) (.inr ⟨_, vs.toArray, _, hk2, rfl, rfl, rfl, by rw [List.size_toArray, many]; exact hl, by simpa using rv⟩) (fun b u q => ?_) (fun b q => absurd rfl q) fun q => absurd rfl q
      cases (show (none : Option HO) = some u from q)
theorem walk_ofG {l : PySem.W.OpenLaw} {n k : Nat} {q : Program} {loose : List Str} {XP : (Str → Option Value) → Heap → Prop} {YP : World → Heap → Prop} {d : DefRec} {x : Str} (hn : l.most = some n) (hn2 : n ≤ sizeLine) (hdf : d.params.defaults = []) (hr : Room k callerA) (F : ∀ (w : World) (mg : Str → Option Value) (fa : Addr) (h : Heap), YP w h → h.Ns mainGlobals mg → mg d.name = some (.ref fa) → ∃ (K : PySem.W.Frag) (fd : FuncData) (sp : Sp), K.In h ∧ (∀ (s : Shared) (u : Value), BindsTo s fd ⟨[u], []⟩ [(x, u)]) ∧
        (∀ (H : Hp) (a : Addr) (ns : List Int), ns.length ≤ n → Only H → SqL K H a (ns.map V.int) → sp [.ref a] H (fun v _ => v = .bl true) E0) ∧
        ∀ base : Heap, K.In base → base.Ns mainGlobals mg → FnG l.prog w K mg base k fa fd [x] sp) : PySem.W.WalkO q loose XP YP l.row.toRowW d [] (fun f vs => PySem.call f vs) := by
  refine Att.attach_call hn hdf fun w s0 s1 mg mb fa o pm cd doc a vs ns G Y ho hd hcd hmg hobj hints hlen hg => ?_
  obtain ⟨K, fd, sp, KX, hb, hsp, hF⟩ := F w mg fa _ Y G.T.g hmg; exact law_callG KX G.T.g G.T.b G.T.builtins G.T.nolimit hg hobj hints (Nat.le_trans hlen hn2) hr hF hb (fun H hO hS => hsp H a ns hlen hO hS)
end KB
namespace KB
open PySem L2 PySem.Spec PyProof.Rows
/-! ### data in the tracked heap, at addresses of which F holds -/
mutual
inductive Dt (F : Addr → Prop) (H : Hp) : V → PyData → Prop
  | non : Dt F H .non .none
  | bl (b : Bool) : Dt F H (.bl b) (.bool b)
  | int (i : Int) : Dt F H (.int i) (.int i)
  | str (x : Str) : Dt F H (.str x) (.str x)
  | lst {a : Addr} {xs : List V} {ds : List PyData} (f : F a) (h : H a = some (.lst xs)) (r : DtA F H xs ds) : Dt F H (.ref a) (.list ds)
  | tup {a : Addr} {xs : List V} {ds : List PyData} (f : F a) (h : H a = some (.tup xs)) (r : DtA F H xs ds) : Dt F H (.ref a) (.tuple ds)
  | emp {a : Addr} (f : F a) (h : H a = some (.dK [])) : Dt F H (.ref a) (.dict [])
inductive DtA (F : Addr → Prop) (H : Hp) : List V → List PyData → Prop
  | nil : DtA F H [] []
  | cons {v : V} {vs : List V} {d : PyData} {ds : List PyData} (h : Dt F H v d) (r : DtA F H vs ds) : DtA F H (v :: vs) (d :: ds)
end
section
variable {F G : Addr → Prop} {H H' : Hp}
mutual
theorem Dt.move (k : ∀ a o, F a → H a = some o → G a ∧ H' a = some o) : ∀ {v : V} {d : PyData}, Dt F H v d → Dt G H' v d
  | _, _, .non => .non
  | _, _, .bl b => .bl b
  | _, _, .int i => .int i
  | _, _, .str x => .str x
  | _, _, .lst f h r => .lst (k _ _ f h).1 (k _ _ f h).2 (DtA.move k r)
  | _, _, .tup f h r => .tup (k _ _ f h).1 (k _ _ f h).2 (DtA.move k r)
  | _, _, .emp f h => .emp (k _ _ f h).1 (k _ _ f h).2
theorem DtA.move (k : ∀ a o, F a → H a = some o → G a ∧ H' a = some o) : ∀ {vs : List V} {ds : List PyData}, DtA F H vs ds → DtA G H' vs ds
  | _, _, .nil => .nil
  | _, _, .cons h r => .cons (Dt.move k h) (DtA.move k r)
end
theorem DtA.length : ∀ {vs : List V} {ds : List PyData}, DtA F H vs ds → vs.length = ds.length
  | _, _, .nil => rfl
  | _, _, .cons _ r => congrArg (· + 1) r.length
theorem DtA.get : ∀ {vs : List V} {ds : List PyData} {i : Nat} {v : V}, DtA F H vs ds → vs[i]? = some v → ∃ d, ds[i]? = some d ∧ Dt F H v d
  | _, _, _, _, DtA.nil, e => by simp at e
  | _, _, 0, _, .cons h _, e => by
    simp at e
    subst e
    exact ⟨_, rfl, h⟩
  | _, _, i + 1, v, .cons _ r, e => by
    obtain ⟨d, e1, h⟩ := DtA.get (i := i) r (by simpa using e)
    exact ⟨d, by simpa using e1, h⟩
theorem DtA.append : ∀ {vs ws : List V} {ds es : List PyData}, DtA F H vs ds → DtA F H ws es → DtA F H (vs ++ ws) (ds ++ es)
  | _, _, _, _, .nil, s => s
  | _, _, _, _, .cons h r, s => .cons h (DtA.append r s)
theorem DtA.set {v : V} {d : PyData} (h : Dt F H v d) : ∀ {vs : List V} {ds : List PyData} (i : Nat), DtA F H vs ds → DtA F H (vs.set i v) (ds.set i d)
  | _, _, _, .nil => .nil
  | _, _, 0, .cons _ r => .cons h r
  | _, _, i + 1, .cons q r => .cons q (DtA.set h i r)
end
/-! ### what is shown of it -/
def SysIn (K : PySem.W.Frag) : Prop := ∃ o, K.lookup sysModules = some o
section
variable {X : Cx} {pins : List (Addr × Obj)} {σ : L2.St} {H : Hp} {s : Shared} {F : Addr → Prop}
theorem sys_none (I : Inv X pins σ H s) (hS : SysIn X.K) : H sysModules = none := by
  obtain ⟨o, e⟩ := hS
  exact (I.bs _ _ (I.ok.mod.kin _ _ e)).2
theorem sys_ne (I : Inv X pins σ H s) (hS : SysIn X.K) {a : Addr} {o : HO} (h : H a = some o) : sysModules ≠ a := fun e => by
  rw [← e, sys_none I hS] at h
  cases h
mutual
theorem Dt.reads (I : Inv X pins σ H s) (hS : SysIn X.K) : ∀ {v : V} {d : PyData} {u : Value}, Dt F H v d → RelV v u → ∃ as, Reads s.heap u d as ∧ sysModules ∉ as
  | _, _, _, .non, r => by
    cases r
    exact ⟨[], .none, by simp⟩
  | _, _, _, .bl b, r => by
    cases r
    exact ⟨[], .bool b, by simp⟩
  | _, _, _, .int i, r => by
    obtain ⟨t, rfl⟩ := r
    exact ⟨[], .int i t, by simp⟩
  | _, _, _, .str x, r => by
    obtain ⟨t, rfl⟩ := r
    exact ⟨[], .str x t, by simp⟩
  | _, _, _, .lst (a := a) (xs := xs) f h q, r => by
    cases r
    obtain ⟨_, its, n, rv, ho⟩ := (show ObjOk X.prog X.w H s.heap a (.lst xs) from I.hok a _ h)
    obtain ⟨as, hr, hn⟩ := DtA.reads I hS q rv
    exact ⟨a :: as, Reads.list ho rfl rfl (by simpa using hr), fun z => (List.mem_cons.mp z).elim (sys_ne I hS h) hn⟩
  | _, _, _, .tup (a := a) (xs := xs) f h q, r => by
    cases r
    obtain ⟨_, its, rv, o, ho, hc, n, hd⟩ := (show ObjOk X.prog X.w H s.heap a (.tup xs) from I.hok a _ h)
    obtain ⟨as, hr, hn⟩ := DtA.reads I hS q rv
    exact ⟨as, Reads.tuple ho hc hd (by simpa using hr), hn⟩
  | _, _, _, .emp (a := a) f h, r => by
    cases r
    obtain ⟨_, _, vs, kv, o, es, ep, ho, hx, hd, _, hm, _⟩ := (show ObjOk X.prog X.w H s.heap a (.dK []) from I.hok a _ h)
    cases kv
    have he : es.toList = [] := by
      have hl := PySem.Pairs.length hm
      exact List.length_eq_zero_iff.mp (by simpa using hl)
    refine ⟨[a], Reads.dict (as := []) (bs := []) ho hx.1 hd (by rw [he]; exact .nil) (by rw [he]; exact .nil), fun z => ?_⟩
    exact sys_ne I hS h (List.mem_singleton.mp z)
theorem DtA.reads (I : Inv X pins σ H s) (hS : SysIn X.K) : ∀ {vs : List V} {ds : List PyData} {us : List Value}, DtA F H vs ds → Vals vs us → ∃ as, ReadsAll s.heap us ds as ∧ sysModules ∉ as
  | _, _, _, .nil, r => by
    cases r
    exact ⟨[], .nil, by simp⟩
  | _, _, _, .cons h q, r => by
    cases r with
    | cons r1 r2 =>
      obtain ⟨as, h1, n1⟩ := Dt.reads I hS h r1
      obtain ⟨bs, h2, n2⟩ := DtA.reads I hS q r2
      exact ⟨as ++ bs, .cons h1 h2, fun z => (List.mem_append.mp z).elim n1 n2⟩
end
/-- repr(x), x any such data -/
def rRepr : List V → Hp → VK → Prop := fun xs H Q => ∃ (F : Addr → Prop) (v : V) (d : PyData), xs = [v] ∧ Dt F H v d ∧ d.showable = true ∧ d.depth ≤ 60 ∧ d.shown.length ≤ sizeLine ∧ Q (.str d.shown) H
theorem call_repr {k : Nat} (hS : SysIn X.K) (hg : X.A.guards = some []) (hr : Room k X.A) : CallR X (.builtin "repr") rRepr := by
  intro pins s σ H xs us Q I r h; obtain ⟨F, v, d, rfl, hd, sh, dp, ln, q⟩ := h
  obtain ⟨u, rfl, ru⟩ := vals1 r; obtain ⟨as, rd, hn⟩ := hd.reads I hS ru
  have room := hr.units
  cases rd with
  | none =>
    simp only [PyData.shown] at q
    exact PySem.P.repr_of_none ⟨.str _, H, I.tok _, ⟨_, rfl⟩, q⟩
  | bool b =>
    simp only [PyData.shown] at q
    exact PySem.P.repr_of_bool ⟨.str _, H, I.tok _, ⟨_, rfl⟩, q⟩
  | int i t =>
    simp only [PyData.shown] at q
    exact PySem.P.repr_of_int (by simpa [PyData.showable] using sh) ⟨.str _, H, I.tok _, ⟨_, rfl⟩, q⟩
  | str x t =>
    simp only [PyData.shown] at q ln
    exact PySem.P.repr_of_str ⟨.str _, H, I.tok _, ⟨_, rfl⟩, q⟩ ln
  | list h1 h2 h3 h4 => exact repr_of_reads' (.list h1 h2 h3 h4) sh (fun _ => hn) hg (by omega) (fun _ _ e => e) (fun h' u tk k => ⟨.str _, H, I.kept k, ⟨_, rfl⟩, q⟩) ln
  | tuple h1 h2 h3 h4 => exact repr_of_reads' (.tuple h1 h2 h3 h4) sh (fun _ => hn) hg (by omega) (fun _ _ e => e) (fun h' u tk k => ⟨.str _, H, I.kept k, ⟨_, rfl⟩, q⟩) ln
  | dict h1 h2 h3 h4 h5 => exact repr_of_reads' (.dict h1 h2 h3 h4 h5) sh (fun _ => hn) hg (by omega) (fun _ _ e => e) (fun h' u tk k => ⟨.str _, H, I.kept k, ⟨_, rfl⟩, q⟩) ln
end
end KB
namespace KB
open PySem L2 PySem.Spec PyProof.Rows
/-! ### the well: the source of a world's draws -/
/-- at w a well that was asked c times -/
def Wl (H : Hp) (w : Addr) (c : Int) : Prop := ∃ n m z : Int, H w = some (.lst [.int n, .int m, .int c, .int z]) ∧ 0 ≤ n ∧ 0 ≤ m ∧ m < 2147483587 ∧ 0 ≤ c
/-- all but w is as it was -/
def Kw (w : Addr) (H H' : Hp) : Prop := ∀ b o, b ≠ w → H b = some o → H' b = some o
theorem Kw.refl (w : Addr) (H : Hp) : Kw w H H := fun _ _ _ h => h
theorem Kw.trans {w : Addr} {H H1 H2 : Hp} (a : Kw w H H1) (b : Kw w H1 H2) : Kw w H H2 := fun c o n h => b c o n (a c o n h)
theorem Kw.same {w : Addr} {H H' : Hp} (a : Same H H') : Kw w H H' := fun b o _ h => a b o h
theorem Kw.put {w : Addr} {H : Hp} {o : HO} : Kw w H (upd H w o) := fun b u n h => by rw [upd_ne n]; exact h
theorem Kw.new {w p : Addr} {H : Hp} {o : HO} (h : H p = none) : Kw w H (upd H p o) := fun b u _ q => by rw [upd_ne (ne_of_none q h)]; exact q
theorem Same.new {p : Addr} {H : Hp} {o : HO} (h : H p = none) : Same H (upd H p o) := fun b u q => by rw [upd_ne (ne_of_none q h)]; exact q
theorem Wl.ne {H : Hp} {w p : Addr} {c : Int} (h : Wl H w c) (q : H p = none) : w ≠ p := by
  obtain ⟨n, m, z, e, _⟩ := h
  exact ne_of_none e q
theorem Wl.same {H H' : Hp} {w : Addr} {c : Int} (h : Wl H w c) (k : Same H H') : Wl H' w c := by
  obtain ⟨n, m, z, e, r⟩ := h
  exact ⟨n, m, z, k _ _ e, r⟩
theorem Wl.some {H : Hp} {w : Addr} {c : Int} (h : Wl H w c) : H w ≠ none := by
  obtain ⟨n, m, z, e, _⟩ := h
  rw [e]
  exact fun q => nomatch q
/-- draw(well, many) -/
def spDraw : Sp := fun vs H Q _ => ∃ (w : Addr) (k c : Int), vs = [.ref w, .int k] ∧ Wl H w c ∧ c < 2 ^ 60 ∧ 0 < k ∧ k < 2 ^ 29 ∧
  ∀ (r c' : Int) (H' : Hp), 0 ≤ r → r < k → Kw w H H' → Wl H' w c' → c' ≤ c + 1 → Q (.int r) H'
/-- the four places of a well -/
theorem at0 {a b c d : V} : atI [a, b, c, d] (0 : Int) = some a := atI_nat (j := 0) rfl
theorem at1 {a b c d : V} : atI [a, b, c, d] (1 : Int) = some b := atI_nat (j := 1) rfl
theorem at2 {a b c d : V} : atI [a, b, c, d] (2 : Int) = some c := atI_nat (j := 2) rfl
theorem at3 {a b c d : V} : atI [a, b, c, d] (3 : Int) = some d := atI_nat (j := 3) rfl
end KB
namespace KB
open PySem L2 PySem.Spec PyProof.Rows
/-! ### expressions that lay data: all that was stands, the data are new -/
abbrev New (H : Hp) : Addr → Prop := fun a => H a = none
def DE (te : TE) (d : PyData) : Prop := ∀ (σ : L2.St) (H : Hp) (Q : VK), (∀ v H', Same H H' → Dt (New H) H' v d → Q v H') → te σ H Q
def DA (ta : TA) (ds : List PyData) : Prop := ∀ (σ : L2.St) (H : Hp) (Q : List V → Hp → Prop), (∀ vs H', Same H H' → DtA (New H) H' vs ds → Q vs H') → ta σ H Q
theorem Dt.grow {H H1 H2 : Hp} {v : V} {d : PyData} (h : Dt (New H) H1 v d) (k : Same H1 H2) : Dt (New H) H2 v d := h.move fun a o f e => ⟨f, k a o e⟩
theorem DtA.grow {H H1 H2 : Hp} {v : List V} {d : List PyData} (h : DtA (New H) H1 v d) (k : Same H1 H2) : DtA (New H) H2 v d := h.move fun a o f e => ⟨f, k a o e⟩
theorem Dt.back {H H1 H2 : Hp} {v : V} {d : PyData} (h : Dt (New H1) H2 v d) (k : Same H H1) : Dt (New H) H2 v d := h.move fun a o f e => ⟨k.free f, e⟩
theorem DtA.back {H H1 H2 : Hp} {v : List V} {d : List PyData} (h : DtA (New H1) H2 v d) (k : Same H H1) : DtA (New H) H2 v d := h.move fun a o f e => ⟨k.free f, e⟩
theorem de_non : DE (tC .non) .none := fun σ H Q q => q _ H (Same.refl H) .non
theorem de_bl (b : Bool) : DE (tC (.bl b)) (.bool b) := fun σ H Q q => q _ H (Same.refl H) (.bl b)
theorem de_int (i : Int) : DE (tC (.int i)) (.int i) := fun σ H Q q => q _ H (Same.refl H) (.int i)
theorem de_str (x : Str) : DE (tC (.str x)) (.str x) := fun σ H Q q => q _ H (Same.refl H) (.str x)
theorem de_neg (i : Int) : DE (tUn (rU fun i => .int (-i)) (tC (.int i))) (.int (-i)) := fun σ H Q q => ⟨_, rfl, q _ H (Same.refl H) (.int _)⟩
theorem de_pow {i j : Int} (h : CPow i j) : DE (tOp (rI CPow fun i j => .int (i ^ j.toNat)) (tC (.int i)) (tC (.int j))) (.int (i ^ j.toNat)) := fun σ H Q q => ⟨_, _, rfl, rfl, h, q _ H (Same.refl H) (.int _)⟩
theorem de_emp : DE tDNewK (.dict []) := fun σ H Q q p hp => q _ _ (Same.new hp) (.emp hp upd_same)
theorem da_nil : DA tNil [] := fun σ H Q q => q _ H (Same.refl H) .nil
theorem da_cons {te : TE} {t : TA} {d : PyData} {ds : List PyData} (h : DE te d) (r : DA t ds) : DA (tCons te t) (d :: ds) := fun σ H Q q =>
  h σ H _ fun v H1 s1 d1 => r σ H1 _ fun vs H2 s2 d2 => q _ H2 (s1.trans s2) (.cons (d1.grow s2) (d2.back s1))
theorem de_tup {t : TA} {ds : List PyData} (h : DA t ds) (z : ds.length ≤ 1000) : DE (tTup t) (.tuple ds) := fun σ H Q q =>
  h σ H _ fun vs H1 s1 d1 => ⟨Nat.le_of_lt (small1000 (by rw [d1.length]; exact z)), fun p hp => q _ _ (s1.trans (Same.new hp)) (.tup (s1.free hp) upd_same (d1.grow (Same.new hp)))⟩
theorem de_lst {t : TA} {ds : List PyData} (h : DA t ds) (z : ds.length ≤ 1000) : DE (tLst t) (.list ds) := fun σ H Q q =>
  h σ H _ fun vs H1 s1 d1 => ⟨Nat.le_of_lt (small1000 (by rw [d1.length]; exact z)), fun p hp => q _ _ (s1.trans (Same.new hp)) (.lst (s1.free hp) upd_same (d1.grow (Same.new hp)))⟩
/-! ### a data's size -/
structure Gd (n L : Nat) (d : PyData) : Prop where
  sh : d.showable = true
  dp : d.depth ≤ n
  ln : d.shown.length ≤ L
def gdB (n L : Nat) (d : PyData) : Bool := d.showable && (decide (d.depth ≤ n) && decide (d.shown.length ≤ L))
theorem gdB_ok {n L : Nat} {d : PyData} (h : gdB n L d = true) : Gd n L d := by
  obtain ⟨h1, h2⟩ := Bool.and_eq_true_iff.mp h
  obtain ⟨h3, h4⟩ := Bool.and_eq_true_iff.mp h2
  exact ⟨h1, of_decide_eq_true h3, of_decide_eq_true h4⟩
theorem gd_all {n L : Nat} {ds : List PyData} (h : (ds.all fun d => gdB n L d) = true) {i : Nat} {d : PyData} (e : ds[i]? = some d) : Gd n L d :=
  gdB_ok (List.all_eq_true.mp h d (List.mem_of_getElem? e))
theorem Gd.mono {n L m M : Nat} {d : PyData} (h : Gd n L d) (a : n ≤ m) (b : L ≤ M) : Gd m M d := ⟨h.sh, Nat.le_trans h.dp a, Nat.le_trans h.ln b⟩
theorem gd_sum {n L : Nat} : ∀ {ds : List PyData}, (∀ d ∈ ds, Gd n L d) → PyData.showableAll ds = true ∧ PyData.depthAll ds ≤ n ∧ ((PyData.shownAll ds).map (·.length)).sum + 2 * ds.length ≤ (L + 2) * ds.length
  | [], _ => by simp [PyData.showableAll, PyData.depthAll, PyData.shownAll]
  | d :: ds, h => by
    obtain ⟨h1, h2, h3⟩ := gd_sum (ds := ds) fun x hx => h x (List.mem_cons_of_mem _ hx)
    have g := h d List.mem_cons_self
    refine ⟨?_, ?_, ?_⟩
    · simp only [PyData.showableAll, g.sh, h1, Bool.and_self]
    · simp only [PyData.depthAll]
      exact Nat.max_le.mpr ⟨g.dp, h2⟩
    · have ln := g.ln
      simp only [PyData.shownAll, List.map_cons, List.sum_cons, List.length_cons]
      rw [Nat.mul_add, Nat.mul_add]
      omega
theorem gd_tup {n L m : Nat} {ds : List PyData} (h : ∀ d ∈ ds, Gd n L d) (hm : ds.length ≤ m) : Gd (n + 1) ((L + 2) * m + 3) (.tuple ds) := by
  obtain ⟨h1, h2, h3⟩ := gd_sum h
  have hk : (L + 2) * ds.length ≤ (L + 2) * m := Nat.mul_le_mul_left _ hm
  refine ⟨by simp only [PyData.showable, h1], by simp only [PyData.depth]; omega, ?_⟩
  simp only [PyData.shown]
  have q := tupleText_len_le (PyData.shownAll ds)
  rw [PyData.shownAll_length] at q
  omega
theorem gd_lst {n L m : Nat} {ds : List PyData} (h : ∀ d ∈ ds, Gd n L d) (hm : ds.length ≤ m) : Gd (n + 1) ((L + 2) * m + 3) (.list ds) := by
  obtain ⟨h1, h2, h3⟩ := gd_sum h
  have hk : (L + 2) * ds.length ≤ (L + 2) * m := Nat.mul_le_mul_left _ hm
  refine ⟨by simp only [PyData.showable, h1], by simp only [PyData.depth]; omega, ?_⟩
  simp only [PyData.shown]
  have q := listText_len_le (PyData.shownAll ds)
  rw [PyData.shownAll_length] at q
  omega
/-! ### one of some things; a thing of any kind -/
theorem Kw.seqT {K : PySem.W.Frag} {w t : Addr} {H H' : Hp} {c : Int} {xs : List V} (k : Kw w H H') (hw : Wl H w c) (h : SqT K H t xs) : SqT K H' t xs := by
  obtain ⟨n, m, z, e, _⟩ := hw; rcases h with (h | ⟨o, h⟩) | h
  · exact .inl (.inl (k _ _ (ne_of h e (by intro q; cases q)) h))
  · exact .inl (.inr ⟨o, k _ _ (ne_of h e (by intro q; cases q)) h⟩)
  · exact .inr h
/-- pick(well, tuple) -/
def spPick (K : PySem.W.Frag) : Sp := fun vs H Q _ => ∃ (w t : Addr) (xs : List V) (c : Int), vs = [.ref w, .ref t] ∧ Wl H w c ∧ c < 2 ^ 60 ∧ SqT K H t xs ∧ 0 < xs.length ∧ xs.length ≤ 1000 ∧
  ∀ (i : Nat) (v : V) (c' : Int) (H' : Hp), xs[i]? = some v → Kw w H H' → Wl H' w c' → c' ≤ c + 1 → Q v H'
/-- odd(well), one of the data ds -/
def spOdd (ds : List PyData) : Sp := fun vs H Q _ => ∃ (w : Addr) (c : Int), vs = [.ref w] ∧ Wl H w c ∧ c < 2 ^ 60 ∧
  ∀ (i : Nat) (v : V) (d : PyData) (c' : Int) (H' : Hp), ds[i]? = some d → Dt (New H) H' v d → Kw w H H' → Wl H' w c' → c' ≤ c + 1 → Q v H'
theorem Kw.data {w : Addr} {H0 H H' : Hp} {v : V} {d : PyData} (k : Kw w H H') (hw : H0 w ≠ none) (h : Dt (New H0) H v d) : Dt (New H0) H' v d :=
  h.move fun a o f e => ⟨f, k a o (fun z => hw (by rw [← z]; exact f)) e⟩
theorem Kw.dataA {w : Addr} {H0 H H' : Hp} {v : List V} {d : List PyData} (k : Kw w H H') (hw : H0 w ≠ none) (h : DtA (New H0) H v d) : DtA (New H0) H' v d :=
  h.move fun a o f e => ⟨f, k a o (fun z => hw (by rw [← z]; exact f)) e⟩
end KB
namespace KB
open PySem L2 PySem.Spec PyProof.Rows
theorem DE.asg {te : TE} {d : PyData} {g : TG} {rest : TS} {D : Ends} {σ : L2.St} {H : Hp} (h : DE te d)
    (k : ∀ v H', Same H H' → Dt (New H) H' v d → g v σ H' fun s2 H2 => rest D s2 H2) : tSeq (tAsg te g) rest D σ H := h σ H _ k
end KB
namespace K3
open PySem PySem.Spec PyProof.Rows L2 KB
def top (i : Nat) : Stmt := PySem.Challenge.pw_bykindalone_k03_whole_values_and_their_o.main.body.getD i (.Pass ⟨0, 0, 0, 0⟩)
abbrev FnP (K : PySem.W.Frag) (x : Str) (st : Stmt) (f : Addr) (fd : FuncData) : Prop :=
  FunD K x x (defArgs st) (defBody st) (defScope st) [] [] f fd
structure Bl (K : PySem.W.Frag) (mg : Str → Option Value) : Prop where
  sys : SysIn K
  int : mg "int" = none
  abs : mg "abs" = none
  divmod : mg "divmod" = none
  len : mg "len" = none
  repr : mg "repr" = none
  isinstance : mg "isinstance" = none
  range : mg "range" = none
  tuple : mg "tuple" = none
  zip : mg "zip" = none
  min : mg "min" = none
  max : mg "max" = none
  all : mg "all" = none
  list : mg "list" = none
  str : mg "str" = none
  bool : mg "bool" = none
section
variable {K : PySem.W.Frag} {mg : Str → Option Value} {base : Heap} {P : Program} {w : World}
abbrev nDraw : List Str := ["_law_well_here", "_law_many", "_law_figure"]
theorem scDraw : FnScope nDraw ["_law_well_here", "_law_many"] (defScope (top 26)) := ⟨rfl, rfl, rfl, by decide +kernel, rfl, by decide +kernel, by decide +kernel⟩
theorem ok_draw {f : Addr} {fd : FuncData} (F : FnP K "_law_draw" (top 26) f fd) (T : Bl K mg) : FnOk P w K mg base CX0 1 f fd ["_law_well_here", "_law_many"] spDraw := by
  refine F.ok scDraw (fun vs H Q E h => ?_) (fun cdv A outer s H vs Q E hr h => ?_)
  · obtain ⟨w, k, c, rfl, _⟩ := h
    rfl
  · obtain ⟨w, k, c, rfl, ⟨n, m, z, hw, hn, hm, hm2, hc⟩, hc2, hk, hk2, q⟩ := h
    have sc := scDraw
    refine ⟨_, PSs.nox (pss_cons (ps_if (pt_cmpR op_gt (pe_ix ix_list (pv 0) pe_int (fun _ _ => rfl)) pe_int (nomark _)) (pss_cons (ps_asg (pe_callB call_divmod (by rfl) T.divmod (by decide +kernel) (pa_cons (pe_ix ix_list (pv 0) pe_int (fun _ _ => rfl)) (pa_cons (pv 1) pa_nil))) (pg_tup rfl (pgs_cons (pg_sub (pv 0) pe_int set_list) (pgs_cons (pg_name (i := 2) sc.nd rfl (Or.inl rfl)) pgs_nil)))) (pss_one (ps_ret (pv 2)))) pss_nil) (pss_cons (ps_asg (pe_op op_add (pe_ix ix_list (pv 0) pe_int (fun _ _ => rfl)) pe_int) (pg_sub (pv 0) pe_int set_list)) (pss_cons (ps_asg (pe_op op_mod (pe_callTy call_int1 (by rfl) T.int (by decide +kernel) (pa_cons (pe_op op_add (pe_op op_add (pe_op op_mul (pe_ix ix_list (pv 0) pe_int (fun _ _ => rfl)) pe_int) (pe_op op_mul (pe_op op_mul pe_int (pe_ix ix_list (pv 0) pe_int (fun _ _ => rfl))) (pe_ix ix_list (pv 0) pe_int (fun _ _ => rfl)))) pe_int) pa_nil)) pe_int) (pg_sub (pv 0) pe_int set_list)) (pss_one (ps_ret (pe_op op_mod (pe_callTy call_int1 (by rfl) T.int (by decide +kernel) (pa_cons (pe_op op_fdiv (pe_ix ix_list (pv 0) pe_int (fun _ _ => rfl)) pe_int) pa_nil)) (pv 1))))))), ?_⟩
    refine ⟨_, rfl, w, _, _, _, rfl, rfl, SqL.of hw, at0, _, _, rfl, rfl, _, rfl, ite2 (fun g => ?_) (fun g => ?_)⟩
    · have gn : 0 < n := of_decide_eq_true g
      refine ⟨_, rfl, w, _, _, _, rfl, rfl, SqL.of hw, at0, _, rfl, n, k, rfl, ⟨hk, by omega⟩, fun p hp => ?_⟩
      have nw : w ≠ p := ne_of_none hw hp
      refine ⟨p, _, rfl, SqT.of upd_same, rfl, _, _, rfl, _, rfl, w, _, 0, 0, rfl, rfl, Eq.trans (upd_ne nw) hw, rfl, _, _, rfl, ?_⟩
      refine ⟨rfl, _, rfl, ?_⟩
      refine q (n % k) c _ (Int.emod_nonneg _ (by omega)) (Int.emod_lt_of_pos _ hk) ?_ ⟨n / k, m, z, upd_same, Int.ediv_nonneg hn (by omega), hm, hm2, hc⟩ (by omega)
      exact (Kw.new hp).trans Kw.put
    · refine ⟨_, rfl, w, _, _, _, rfl, rfl, SqL.of hw, at2, _, _, rfl, rfl, _, rfl, w, _, 2, 2, rfl, rfl, hw, rfl, ?_⟩
      have h1 : upd H w (.lst [.int n, .int m, .int (c + 1), .int z]) w = some (.lst [.int n, .int m, .int (c + 1), .int z]) := upd_same
      refine ⟨_, rfl, w, _, _, _, rfl, rfl, SqL.of h1, at1, _, _, rfl, rfl, .inl ⟨by omega, by omega⟩, _, rfl, w, _, _, _, rfl, rfl, SqL.of h1, at2, _, _, rfl, rfl, .inl ⟨by decide, by decide⟩, _, rfl, w, _, _, _, rfl, rfl, SqL.of h1, at2, _, _, rfl, rfl, .inr ⟨by omega, by omega⟩, _, _, rfl, rfl, _, _, rfl, rfl, ?_⟩
      refine .inl ⟨_, rfl, _, _, rfl, rfl, (by decide : (0 : Int) < 2147483587), ?_⟩
      have x0 : 0 ≤ ((m * 39373 + 3 * (c + 1) * (c + 1) + 1) % 2147483587) := Int.emod_nonneg _ (by decide)
      have x1 : ((m * 39373 + 3 * (c + 1) * (c + 1) + 1) % 2147483587) < 2147483587 := Int.emod_lt_of_pos _ (by decide)
      refine ⟨_, rfl, w, _, 1, 1, rfl, rfl, h1, rfl, ?_⟩
      have h2 : upd (upd H w (.lst [.int n, .int m, .int (c + 1), .int z])) w (.lst [.int n, .int ((m * 39373 + 3 * (c + 1) * (c + 1) + 1) % 2147483587), .int (c + 1), .int z]) w = some (.lst [.int n, .int ((m * 39373 + 3 * (c + 1) * (c + 1) + 1) % 2147483587), .int (c + 1), .int z]) := upd_same
      refine ⟨_, rfl, w, _, _, _, rfl, rfl, SqL.of h2, at1, _, _, rfl, rfl, ⟨by decide, by decide⟩, .inl ⟨_, rfl, _, rfl, _, _, rfl, rfl, hk, ?_⟩⟩
      exact q _ (c + 1) _ (Int.emod_nonneg _ (by omega)) (Int.emod_lt_of_pos _ hk) (Kw.put.trans Kw.put) ⟨n, ((m * 39373 + 3 * (c + 1) * (c + 1) + 1) % 2147483587), z, h2, hn, x0, x1, by omega⟩ (by omega)
end
end K3
namespace KB
open PySem L2 PySem.Spec PyProof.Rows
/-- well(script, turn) -/
def spWell (K : PySem.W.Frag) : Sp := fun vs H Q _ => ∃ (a : Addr) (ns : List Int) (t : Int), vs = [.ref a, .int t] ∧ SqL K H a (ns.map V.int) ∧ 0 ≤ t ∧ t < 100 ∧
  ∀ (w : Addr) (H' : Hp), H w = none → Same H H' → Wl H' w 0 → Q (.ref w) H'
theorem cut_ints (ns : List Int) (lo hi : Option Int) : ∀ y ∈ cutV (ns.map V.int) lo hi, ∃ k, y = V.int k := by
  intro y hy
  unfold cutV at hy
  have h1 := List.mem_of_mem_drop (List.mem_of_mem_take hy)
  obtain ⟨k, _, e⟩ := List.mem_map.mp h1
  exact ⟨k, e.symm⟩
end KB
namespace K3
open PySem PySem.Spec PyProof.Rows L2 KB
section
variable {K : PySem.W.Frag} {mg : Str → Option Value} {base : Heap} {P : Program} {w : World}
abbrev nWell : List Str := ["_law_script", "_law_turn", "_law_mixed", "_law_cell", "_law_own"]
theorem scWell : FnScope nWell ["_law_script", "_law_turn"] (defScope (top 25)) := ⟨rfl, rfl, rfl, by decide +kernel, rfl, by decide +kernel, by decide +kernel⟩
theorem ok_well {f : Addr} {fd : FuncData} (F : FnP K "_law_well" (top 25) f fd) (T : Bl K mg) : FnOk P w K mg base CX0 1 f fd ["_law_script", "_law_turn"] (spWell K) := by
  refine F.ok scWell (fun vs H Q E h => ?_) (fun cdv A outer s H vs Q E hr h => ?_)
  · obtain ⟨a, ns, t, rfl, _⟩ := h
    rfl
  · obtain ⟨a, ns, t, rfl, hS, t0, t1, q⟩ := h
    have sc := scWell
    refine ⟨_, PSs.nox (pss_cons (ps_set (i := 2) sc.nd rfl (Or.inl rfl) (pe_op op_add pe_int (pe_op op_mul pe_int (pv 1)))) (pss_cons (ps_for PassesOwn.never rfl (pi_list (pe_slice sl_list (pv 0) po_none (po_some pe_int))) (pg_name (i := 3) sc.nd rfl (Or.inl rfl)) (pss_one (ps_set (i := 2) sc.nd rfl (Or.inl rfl) (pe_op op_mod (pe_callTy call_int1 (by rfl) T.int (by decide +kernel) (pa_cons (pe_op op_add (pe_op op_add (pe_op op_mul (pv 2) pe_int) (pe_op op_mod (pe_callTy call_int1 (by rfl) T.int (by decide +kernel) (pa_cons (pv 3) pa_nil)) pe_int)) pe_int) pa_nil)) pe_int)))) (pss_cons (ps_set (i := 4) sc.nd rfl (Or.inl rfl) (pe_ifExp (pt_cmpR op_lt (pv 1) (pe_callB call_len (by rfl) T.len (by decide +kernel) (pa_cons (pv 0) pa_nil)) (nomark _)) (pe_callTy call_int1 (by rfl) T.int (by decide +kernel) (pa_cons (pe_ix ix_list (pv 0) (pv 1) (fun _ _ => rfl)) pa_nil)) pe_int)) (pss_cons (ps_set (i := 2) sc.nd rfl (Or.inl rfl) (pe_op op_mod (pe_callTy call_int1 (by rfl) T.int (by decide +kernel) (pa_cons (pe_op op_add (pe_op op_add (pe_op op_mul (pv 2) pe_int) (pe_op op_mul (pe_op op_mod (pe_callTy call_int1 (by rfl) T.int (by decide +kernel) (pa_cons (pv 4) pa_nil)) pe_int) pe_int)) pe_int) pa_nil)) pe_int)) (pss_one (ps_ret (pe_lst (pa_cons (pe_ifExp (PW.pt (pw_or (pt_cmpR op_lt (pv 4) pe_int (nomark _)) (pw_or1 (pt_cmpR op_ge (pv 4) (pe_op op_pow pe_int pe_int) (nomark _))))) (pe_callB call_abs (by rfl) T.abs (by decide +kernel) (pa_cons (pv 4) pa_nil)) pe_int) (pa_cons (pv 2) (pa_cons pe_int (pa_cons pe_int pa_nil))))))))))), ?_⟩
    refine ⟨_, rfl, _, _, rfl, rfl, .inl ⟨by decide, by decide⟩, _, _, rfl, rfl, ?_⟩
    refine ⟨_, rfl, _, rfl, a, _, rfl, hS, fun p hp => ?_⟩
    have s1 : Same H (upd H p (.lst (cutV (ns.map V.int) none (some 12)))) := Same.new hp
    refine ⟨p, rfl, ⟨_, SqL.of upd_same⟩, for_list (K := K) (a := p) (xs := cutV (ns.map V.int) none (some 12)) (fun i σ H' => H' = upd H p (.lst (cutV (ns.map V.int) none (some 12))) ∧ ∃ (m : Int) (v : Option V), σ = [some (.ref a), some (.int t), some (.int m), v, none] ∧ 0 ≤ m ∧ m < 2147483587)
      ⟨rfl, _, none, rfl, by omega, by omega⟩ (fun i σ H' _ h => by rw [h.1]; exact SqL.of upd_same) ?_ ?_⟩
    · rintro i y σ H' hi ⟨rfl, m, v, rfl, m0, m1⟩
      obtain ⟨k, rfl⟩ := cut_ints ns none (some 12) y (List.mem_of_getElem? hi)
      refine ⟨_, rfl, _, _, rfl, rfl, .inl ⟨by omega, by omega⟩, _, rfl, .inl ⟨_, rfl, _, _, rfl, rfl, (by decide : (0 : Int) < 2147483629), _, _, rfl, rfl, _, _, rfl, rfl, .inl ⟨_, rfl, _, _, rfl, rfl, (by decide : (0 : Int) < 2147483587), ?_⟩⟩⟩
      exact ⟨rfl, _, _, rfl, Int.emod_nonneg _ (by decide), Int.emod_lt_of_pos _ (by decide)⟩
    · rintro σ H' ⟨rfl, m, v, rfl, m0, m1⟩
      have hS1 := s1.seq hS
      have fin2 : ∀ (x m2 : Int), 0 ≤ x → 0 ≤ m2 → m2 < 2147483587 → ∀ p2, upd H p (.lst (cutV (ns.map V.int) none (some 12))) p2 = none →
          Q (.ref p2) (upd (upd H p (.lst (cutV (ns.map V.int) none (some 12)))) p2 (.lst [.int x, .int m2, .int 0, .int 2])) := fun x m2 x0 b0 b1 p2 hp2 =>
        q p2 _ (s1.free hp2) (s1.trans (Same.new hp2)) ⟨x, m2, 2, upd_same, x0, b0, b1, Int.le_refl _⟩
      refine ⟨_, rfl, _, rfl, _, _, rfl, .inl ⟨_, hS1, rfl⟩, _, _, rfl, rfl, _, rfl, ite2 (fun g => ?_) (fun g => ?_)⟩
      · have gl : t < ((ns.map V.int).length : Int) := of_decide_eq_true g
        obtain ⟨j, rfl⟩ := Int.eq_ofNat_of_zero_le t0
        have lj : j < ns.length := by
          rw [List.length_map] at gl
          omega
        have hj : (ns.map V.int)[j]? = some (V.int ns[j]) := by
          rw [List.getElem?_map, List.getElem?_eq_getElem lj]
          rfl
        refine ⟨_, rfl, _, rfl, a, _, _, _, rfl, rfl, hS1, atI_nat hj, .inl ⟨_, rfl, ?_⟩⟩
        refine ⟨_, rfl, _, _, rfl, rfl, .inl ⟨by omega, by omega⟩, _, rfl, .inl ⟨_, rfl, _, _, rfl, rfl, (by decide : (0 : Int) < 2147483629), _, _, rfl, rfl, .inr ⟨by decide, by decide⟩, _, _, rfl, rfl, _, _, rfl, rfl, .inl ⟨_, rfl, _, _, rfl, rfl, (by decide : (0 : Int) < 2147483587), ?_⟩⟩⟩
        refine ⟨_, rfl, _, _, rfl, rfl, _, rfl, ite2 (fun c1 => ?_) (fun c1 => ?_)⟩
        · refine iteT ⟨_, rfl, _, rfl, _, rfl, (by show 4 ≤ sizeLine; decide), fun p2 hp2 => ?_⟩
          exact fin2 _ _ (by split <;> omega) (Int.emod_nonneg _ (by decide)) (Int.emod_lt_of_pos _ (by decide)) p2 hp2
        · refine ⟨_, rfl, _, _, rfl, rfl, ⟨by decide, by decide, by decide⟩, _, _, rfl, rfl, _, rfl, ite2 (fun c2 => ?_) (fun c2 => ?_)⟩
          · refine ⟨_, rfl, _, rfl, _, rfl, (by show 4 ≤ sizeLine; decide), fun p2 hp2 => ?_⟩
            exact fin2 _ _ (by split <;> omega) (Int.emod_nonneg _ (by decide)) (Int.emod_lt_of_pos _ (by decide)) p2 hp2
          · refine ⟨_, rfl, (by show 4 ≤ sizeLine; decide), fun p2 hp2 => ?_⟩
            exact fin2 _ _ (Int.le_refl _) (Int.emod_nonneg _ (by decide)) (Int.emod_lt_of_pos _ (by decide)) p2 hp2
      · refine ⟨_, rfl, _, _, rfl, rfl, .inl ⟨by omega, by omega⟩, _, rfl, .inl ⟨_, rfl, _, _, rfl, rfl, (by decide : (0 : Int) < 2147483629), _, _, rfl, rfl, .inr ⟨by decide, by decide⟩, _, _, rfl, rfl, _, _, rfl, rfl, .inl ⟨_, rfl, _, _, rfl, rfl, (by decide : (0 : Int) < 2147483587), ?_⟩⟩⟩
        refine ⟨_, rfl, _, _, rfl, rfl, _, rfl, ite2 (fun c1 => ?_) (fun c1 => ?_)⟩
        · refine iteT ⟨_, rfl, _, rfl, _, rfl, (by show 4 ≤ sizeLine; decide), fun p2 hp2 => ?_⟩
          exact fin2 _ _ (by split <;> omega) (Int.emod_nonneg _ (by decide)) (Int.emod_lt_of_pos _ (by decide)) p2 hp2
        · refine ⟨_, rfl, _, _, rfl, rfl, ⟨by decide, by decide, by decide⟩, _, _, rfl, rfl, _, rfl, ite2 (fun c2 => ?_) (fun c2 => ?_)⟩
          · refine ⟨_, rfl, _, rfl, _, rfl, (by show 4 ≤ sizeLine; decide), fun p2 hp2 => ?_⟩
            exact fin2 _ _ (by split <;> omega) (Int.emod_nonneg _ (by decide)) (Int.emod_lt_of_pos _ (by decide)) p2 hp2
          · refine ⟨_, rfl, (by show 4 ≤ sizeLine; decide), fun p2 hp2 => ?_⟩
            exact fin2 _ _ (Int.le_refl _) (Int.emod_nonneg _ (by decide)) (Int.emod_lt_of_pos _ (by decide)) p2 hp2
end
end K3
namespace K3
open PySem PySem.Spec PyProof.Rows L2 KB
def odd1 : List PyData := [.none, .bool true, .bool false, .int 0, .int 1, .int (-1), .int 12, .int (10 ^ 30), .str "", .str "num", .str "a", .str "x", .str "let", .str "unit", .str "==", .tuple [], .tuple [.int 0], .tuple [.str "num"]]
def odd2 : List PyData := [.tuple [.str "var", .str "a"], .tuple [.str "var", .str "d"], .tuple [.str "var", .tuple [.str "var", .str "a"]], .tuple [.str "list"], .tuple [.str "list", .tuple [.str "num"], .tuple [.str "num"]], .tuple [.str "unit", .int 1]]
def odd3 : List PyData := [.tuple [.str "pair", .tuple [.str "num"]], .tuple [.str "name", .str "x"], .tuple [.str "name", .str "let"], .tuple [.str "number", .bool true], .tuple [.str "left", .int 1], .list [], .list [.str "num"], .dict [], .str "1x"]
def odd4 : List PyData := [.tuple [.str "fun", .tuple [.str "num"], .tuple [.str "unit"]], .str "A", .tuple [.tuple [.str "unit"]], .tuple [.tuple [], .tuple []]]
def oddL : List PyData := odd1 ++ odd2 ++ odd3 ++ odd4
theorem odd_good : (oddL.all fun d => gdB 3 60 d) = true := by decide +kernel
section
variable {K : PySem.W.Frag} {mg : Str → Option Value} {base : Heap} {P : Program} {w : World}
abbrev nPick : List Str := ["_law_well_here", "_law_some"]
theorem scPick : FnScope nPick ["_law_well_here", "_law_some"] (defScope (top 27)) := ⟨rfl, rfl, rfl, by decide +kernel, rfl, by decide +kernel, by decide +kernel⟩
theorem ok_pick {f fD : Addr} {fd fdD : FuncData} (F : FnP K "_law_pick" (top 27) f fd) (T : Bl K mg) (FD : FnP K "_law_draw" (top 26) fD fdD) (gD : mg "_law_draw" = some (.ref fD)) (bD : Binds K fdD ["_law_well_here", "_law_many"] []) :
    FnOk P w K mg base CX0 2 f fd ["_law_well_here", "_law_some"] (spPick K) := by
  have GD : FnOk P w K mg base CX0 1 fD fdD ["_law_well_here", "_law_many"] spDraw := ok_draw FD T
  refine F.ok scPick (fun vs H Q E h => ?_) (fun cdv A outer s H vs Q E hr h => ?_)
  · obtain ⟨w, t, xs, c, rfl, _⟩ := h
    rfl
  · obtain ⟨w, t, xs, c, rfl, hw, hc, hS, h0, h1, q⟩ := h
    have sc := scPick
    refine ⟨_, PSs.nox (pss_one (ps_ret (pe_ix ix_tup (pv 1) (pe_call GD hr rfl gD FD.kp bD .nil pass0 (pa_cons (pv 0) (pa_cons (pe_callB call_len (by rfl) T.len (by decide +kernel) (pa_cons (pv 1) pa_nil)) pa_nil))) (fun _ _ => rfl)))), ?_⟩
    refine ⟨_, rfl, _, rfl, _, rfl, _, _, rfl, .inr ⟨_, hS, rfl⟩, w, _, c, rfl, hw, hc, by omega, by omega, fun r c' H' r0 r1 kw hw' hc' => ?_⟩
    obtain ⟨j, rfl⟩ := Int.eq_ofNat_of_zero_le r0
    have lj : j < xs.length := by omega
    exact ⟨t, xs, _, xs[j], rfl, rfl, kw.seqT hw hS, atI_nat (List.getElem?_eq_getElem lj), q j _ c' H' (List.getElem?_eq_getElem lj) kw hw' hc'⟩
abbrev nOdd : List Str := ["_law_well_here", "_law_some", "_law_more", "_law_ends"]
theorem scOdd : FnScope nOdd ["_law_well_here"] (defScope (top 29)) := ⟨rfl, rfl, rfl, by decide +kernel, rfl, by decide +kernel, by decide +kernel⟩
theorem ok_odd {f fP : Addr} {fd fdP : FuncData} (F : FnP K "_law_odd" (top 29) f fd) (FP : FnP K "_law_pick" (top 27) fP fdP) (gP : mg "_law_pick" = some (.ref fP)) (bP : Binds K fdP ["_law_well_here", "_law_some"] [])
    (GP : FnOk P w K mg base CX0 2 fP fdP ["_law_well_here", "_law_some"] (spPick K)) : FnOk P w K mg base CX0 3 f fd ["_law_well_here"] (spOdd oddL) := by
  refine F.ok scOdd (fun vs H Q E h => ?_) (fun cdv A outer s H vs Q E hr h => ?_)
  · obtain ⟨w, c, rfl, _⟩ := h
    rfl
  · obtain ⟨w, c, rfl, hw, hc, q⟩ := h
    have sc := scOdd
    refine ⟨_, PSs.nox (pss_cons (ps_set (i := 1) sc.nd rfl (Or.inl rfl) (pe_tup (pa_cons pe_non (pa_cons pe_bl (pa_cons pe_bl (pa_cons pe_int (pa_cons pe_int (pa_cons (pe_un un_neg pe_int) (pa_cons pe_int (pa_cons (pe_op op_pow pe_int pe_int) (pa_cons pe_str (pa_cons pe_str (pa_cons pe_str (pa_cons pe_str (pa_cons pe_str (pa_cons pe_str (pa_cons pe_str (pa_cons (pe_tup pa_nil) (pa_cons (pe_tup (pa_cons pe_int pa_nil)) (pa_cons (pe_tup (pa_cons pe_str pa_nil)) pa_nil)))))))))))))))))))) (pss_cons (ps_set (i := 2) sc.nd rfl (Or.inl rfl) (pe_tup (pa_cons (pe_tup (pa_cons pe_str (pa_cons pe_str pa_nil))) (pa_cons (pe_tup (pa_cons pe_str (pa_cons pe_str pa_nil))) (pa_cons (pe_tup (pa_cons pe_str (pa_cons (pe_tup (pa_cons pe_str (pa_cons pe_str pa_nil))) pa_nil))) (pa_cons (pe_tup (pa_cons pe_str pa_nil)) (pa_cons (pe_tup (pa_cons pe_str (pa_cons (pe_tup (pa_cons pe_str pa_nil)) (pa_cons (pe_tup (pa_cons pe_str pa_nil)) pa_nil)))) (pa_cons (pe_tup (pa_cons pe_str (pa_cons pe_int pa_nil))) pa_nil)))))))) (pss_cons (ps_set (i := 3) sc.nd rfl (Or.inl rfl) (pe_tup (pa_cons (pe_tup (pa_cons pe_str (pa_cons (pe_tup (pa_cons pe_str pa_nil)) pa_nil))) (pa_cons (pe_tup (pa_cons pe_str (pa_cons pe_str pa_nil))) (pa_cons (pe_tup (pa_cons pe_str (pa_cons pe_str pa_nil))) (pa_cons (pe_tup (pa_cons pe_str (pa_cons pe_bl pa_nil))) (pa_cons (pe_tup (pa_cons pe_str (pa_cons pe_int pa_nil))) (pa_cons (pe_lst pa_nil) (pa_cons (pe_lst (pa_cons pe_str pa_nil)) (pa_cons pe_dnewK (pa_cons pe_str pa_nil))))))))))) (pss_one (ps_ret (pe_call GP hr rfl gP FP.kp bP .nil pass0 (pa_cons (pv 0) (pa_cons (pe_op op_catT (pe_op op_catT (pe_op op_catT (pv 1) (pv 2)) (pv 3)) (pe_tup (pa_cons (pe_tup (pa_cons pe_str (pa_cons (pe_tup (pa_cons pe_str pa_nil)) (pa_cons (pe_tup (pa_cons pe_str pa_nil)) pa_nil)))) (pa_cons pe_str (pa_cons (pe_tup (pa_cons (pe_tup (pa_cons pe_str pa_nil)) pa_nil)) (pa_cons (pe_tup (pa_cons (pe_tup pa_nil) (pa_cons (pe_tup pa_nil) pa_nil))) pa_nil)))))) pa_nil)))))))), ?_⟩
    have d1 : DE (tTup _) (.tuple odd1) := (de_tup (da_cons de_non (da_cons (de_bl _) (da_cons (de_bl _) (da_cons (de_int _) (da_cons (de_int _) (da_cons (de_neg _) (da_cons (de_int _) (da_cons (de_pow (i := 10) (j := 30) ⟨by decide, by decide, by decide⟩) (da_cons (de_str _) (da_cons (de_str _) (da_cons (de_str _) (da_cons (de_str _) (da_cons (de_str _) (da_cons (de_str _) (da_cons (de_str _) (da_cons (de_tup da_nil (by decide)) (da_cons (de_tup (da_cons (de_int _) da_nil) (by decide)) (da_cons (de_tup (da_cons (de_str _) da_nil) (by decide)) da_nil)))))))))))))))))) (by decide))
    have d2 : DE (tTup _) (.tuple odd2) := (de_tup (da_cons (de_tup (da_cons (de_str _) (da_cons (de_str _) da_nil)) (by decide)) (da_cons (de_tup (da_cons (de_str _) (da_cons (de_str _) da_nil)) (by decide)) (da_cons (de_tup (da_cons (de_str _) (da_cons (de_tup (da_cons (de_str _) (da_cons (de_str _) da_nil)) (by decide)) da_nil)) (by decide)) (da_cons (de_tup (da_cons (de_str _) da_nil) (by decide)) (da_cons (de_tup (da_cons (de_str _) (da_cons (de_tup (da_cons (de_str _) da_nil) (by decide)) (da_cons (de_tup (da_cons (de_str _) da_nil) (by decide)) da_nil))) (by decide)) (da_cons (de_tup (da_cons (de_str _) (da_cons (de_int _) da_nil)) (by decide)) da_nil)))))) (by decide))
    have d3 : DE (tTup _) (.tuple odd3) := (de_tup (da_cons (de_tup (da_cons (de_str _) (da_cons (de_tup (da_cons (de_str _) da_nil) (by decide)) da_nil)) (by decide)) (da_cons (de_tup (da_cons (de_str _) (da_cons (de_str _) da_nil)) (by decide)) (da_cons (de_tup (da_cons (de_str _) (da_cons (de_str _) da_nil)) (by decide)) (da_cons (de_tup (da_cons (de_str _) (da_cons (de_bl _) da_nil)) (by decide)) (da_cons (de_tup (da_cons (de_str _) (da_cons (de_int _) da_nil)) (by decide)) (da_cons (de_lst da_nil (by decide)) (da_cons (de_lst (da_cons (de_str _) da_nil) (by decide)) (da_cons de_emp (da_cons (de_str _) da_nil))))))))) (by decide))
    have d4 : DE (tTup _) (.tuple odd4) := (de_tup (da_cons (de_tup (da_cons (de_str _) (da_cons (de_tup (da_cons (de_str _) da_nil) (by decide)) (da_cons (de_tup (da_cons (de_str _) da_nil) (by decide)) da_nil))) (by decide)) (da_cons (de_str _) (da_cons (de_tup (da_cons (de_tup (da_cons (de_str _) da_nil) (by decide)) da_nil) (by decide)) (da_cons (de_tup (da_cons (de_tup da_nil (by decide)) (da_cons (de_tup da_nil (by decide)) da_nil)) (by decide)) da_nil)))) (by decide))
    refine DE.asg d1 fun v1 H1 s1 t1 => ?_
    refine DE.asg d2 fun v2 H2 s2 t2 => ?_
    refine DE.asg d3 fun v3 H3 s3 t3 => ?_
    have t1' := (t1.grow s2).grow s3
    have t2' := (t2.grow s3).back s1
    have t3' := t3.back (s1.trans s2)
    cases t1' with
    | tup f1 h1 r1 => cases t2' with
      | tup f2 h2 r2 => cases t3' with
        | tup f3 h3 r3 =>
          have s03 := (s1.trans s2).trans s3
          rename_i a1 xs1 a2 xs2 a3 xs3
          have l1 := r1.length
          have l2 := r2.length
          have l3 := r3.length
          have e1 : odd1.length = 18 := rfl
          have e2 : odd2.length = 6 := rfl
          have e3 : odd3.length = 9 := rfl
          have n1 : xs1 ≠ [] := fun z => by (subst z; cases l1)
          have n2 : xs2 ≠ [] := fun z => by (subst z; cases l2)
          have n3 : xs3 ≠ [] := fun z => by (subst z; cases l3)
          have cat : ∀ {a b : List V}, a ≠ [] → a ++ b ≠ [] := fun h z => h (List.append_eq_nil_iff.mp z).1
          refine ⟨_, rfl, _, rfl, _, rfl, a1, a2, xs1, xs2, rfl, rfl, SqT.of h1, SqT.of h2, n1, Nat.le_of_lt (small1000 (by omega)), fun z => absurd z n2, fun _ p hp => ?_⟩
          refine ⟨_, rfl, p, a3, xs1 ++ xs2, xs3, rfl, rfl, SqT.of upd_same, SqT.of (Same.new hp _ _ h3), cat n1, Nat.le_of_lt (small1000 (by rw [List.length_append]; omega)), fun z => absurd z n3, fun _ p2 hp2 => ?_⟩
          refine d4 _ _ _ fun v4 H4 s4 t4 => ?_
          have sA := (Same.new hp).trans ((Same.new hp2).trans s4)
          cases t4 with
          | tup f4 h4 r4 =>
            rename_i a4 xs4
            have l4 := r4.length
            have e4 : odd4.length = 4 := rfl
            have n4 : xs4 ≠ [] := fun z => by (subst z; cases l4)
            refine ⟨p2, a4, xs1 ++ xs2 ++ xs3, xs4, rfl, rfl, SqT.of (s4 _ _ upd_same), SqT.of h4, cat (cat n1), Nat.le_of_lt (small1000 (by simp only [List.length_append]; omega)), fun z => absurd z n4, fun _ p3 hp3 => ?_⟩
            have sB := sA.trans (Same.new (o := .tup (xs1 ++ xs2 ++ xs3 ++ xs4)) hp3)
            have s0 := s03.trans sB
            have all : DtA (New H) (upd H4 p3 (.tup (xs1 ++ xs2 ++ xs3 ++ xs4))) (xs1 ++ xs2 ++ xs3 ++ xs4) oddL :=
              (((r1.grow sB).append (r2.grow sB)).append (r3.grow sB)).append ((r4.back (s03.trans ((Same.new hp).trans (Same.new hp2)))).grow (Same.new hp3))
            refine ⟨w, p3, _, c, rfl, hw.same s0, hc, SqT.of upd_same, by (simp only [List.length_append]; omega), by (simp only [List.length_append]; omega), fun i v c' H' hi kw hw' hc' => ?_⟩
            obtain ⟨d, hd, dt⟩ := all.get hi
            exact q i v d c' H' hd (kw.data hw.some dt) ((Kw.same s0).trans kw) hw' hc'
end
end K3
namespace KB
open PySem L2 PySem.Spec PyProof.Rows
abbrev Nw (w : Addr) : Addr → Prop := fun a => a ≠ w
theorem Dt.kw {w : Addr} {H H' : Hp} {v : V} {d : PyData} (h : Dt (Nw w) H v d) (k : Kw w H H') : Dt (Nw w) H' v d := h.move fun a o f e => ⟨f, k a o f e⟩
theorem DtA.kw {w : Addr} {H H' : Hp} {v : List V} {d : List PyData} (h : DtA (Nw w) H v d) (k : Kw w H H') : DtA (Nw w) H' v d := h.move fun a o f e => ⟨f, k a o f e⟩
theorem Dt.nw {w : Addr} {H H' : Hp} {v : V} {d : PyData} (h : Dt (New H) H' v d) (hw : H w ≠ none) : Dt (Nw w) H' v d := h.move fun a o f e => ⟨fun z => hw (by rw [← z]; exact f), e⟩
theorem Kw.free {w a : Addr} {H H' : Hp} (k : Kw w H H') (hw : H' w ≠ none) (h : H' a = none) : H a = none := by
  cases e : H a with
  | none => rfl
  | some o =>
    by_cases q : a = w
    · subst q
      exact absurd h hw
    · rw [k a o q e] at h
      cases h
/-! ### kinds -/
inductive Kd | num | unit | var (x : Str) | lst (a : Kd) | pair (a b : Kd) | eith (a b : Kd) | fn (a b : Kd)
def Kd.d : Kd → PyData
  | num => .tuple [.str "num"]
  | unit => .tuple [.str "unit"]
  | var x => .tuple [.str "var", .str x]
  | lst a => .tuple [.str "list", a.d]
  | pair a b => .tuple [.str "pair", a.d, b.d]
  | eith a b => .tuple [.str "either", a.d, b.d]
  | fn a b => .tuple [.str "fun", a.d, b.d]
def Kd.dep : Kd → Nat
  | num => 1
  | unit => 1
  | var _ => 1
  | lst a => a.dep + 1
  | pair a b => max a.dep b.dep + 1
  | eith a b => max a.dep b.dep + 1
  | fn a b => max a.dep b.dep + 1
def Kd.closed : Kd → Bool
  | num => true
  | unit => true
  | var _ => false
  | lst a => a.closed
  | pair a b => a.closed && b.closed
  | eith a b => a.closed && b.closed
  | fn a b => a.closed && b.closed
def Kd.noFn : Kd → Bool
  | num => true
  | unit => true
  | var _ => true
  | lst a => a.noFn
  | pair a b => a.noFn && b.noFn
  | eith a b => a.noFn && b.noFn
  | fn _ _ => false
def Ck : Nat → Int
  | 0 => 2
  | n + 1 => 2 * Ck n + 2
theorem Ck_ge : ∀ n, 2 ≤ Ck n
  | 0 => Int.le_refl _
  | n + 1 => by
    have := Ck_ge n
    unfold Ck
    omega
/-- kind(well, n, which) -/
def spKind (n : Nat) : Sp := fun vs H Q _ => ∃ (w : Addr) (wh c : Int), vs = [.ref w, .int n, .int wh] ∧ Wl H w c ∧ c + Ck n < 2 ^ 60 ∧
  ∀ (v : V) (k : Kd) (c' : Int) (H' : Hp), Dt (Nw w) H' v k.d → k.dep ≤ max n 1 → (2 ≤ wh → k.closed = true) → (wh = 1 ∨ wh = 2 → k.noFn = true) → Kw w H H' → Wl H' w c' → c' ≤ c + Ck n → Q v H'
theorem kind_draw {σ : L2.St} {H : Hp} {w : Addr} {n c : Int} {Q : VK} (h0 : σ[0]? = some (some (V.ref w))) (h1 : σ[1]? = some (some (V.int n))) (hw : Wl H w c) (hc : c < 2 ^ 60)
    (h : ∀ (b c1 : Int) (H1 : Hp), 0 ≤ b → (b < 4 ∨ (1 < n ∧ b < 12)) → Kw w H H1 → Wl H1 w c1 → c1 ≤ c + 1 → Q (.int b) H1) :
    tIf (tTest (tOp (rI0 fun i j => V.bl (decide (j < i))) (tVar 1) (tC (V.int 1)))) (tCall spDraw [] E0 (tCons (tVar 0) (tCons (tC (V.int 12)) tNil))) (tCall spDraw [] E0 (tCons (tVar 0) (tCons (tC (V.int 4)) tNil))) σ H Q := by
  refine ⟨_, h1, _, _, rfl, rfl, _, rfl, ite2 (fun g => ?_) (fun g => ?_)⟩
  · exact ⟨_, h0, w, 12, c, rfl, hw, hc, by decide, by decide, fun b c1 H1 b0 b1 k1 w1 e1 => h b c1 H1 b0 (.inr ⟨of_decide_eq_true g, b1⟩) k1 w1 e1⟩
  · exact ⟨_, h0, w, 4, c, rfl, hw, hc, by decide, by decide, fun b c1 H1 b0 b1 k1 w1 e1 => h b c1 H1 b0 (.inl b1) k1 w1 e1⟩
end KB
namespace K3
open PySem PySem.Spec PyProof.Rows L2 KB
section
variable {K : PySem.W.Frag} {mg : Str → Option Value} {base : Heap} {P : Program} {w : World}
abbrev nKind : List Str := ["_law_well_here", "_law_deep", "_law_which", "_law_branch", "_law_word", "_law_one"]
theorem scKind : FnScope nKind ["_law_well_here", "_law_deep", "_law_which"] (defScope (top 30)) := ⟨rfl, rfl, rfl, by decide +kernel, rfl, by decide +kernel, by decide +kernel⟩
theorem kind_body (n : Nat) {f fD fP : Addr} {fd fdD fdP : FuncData} {spR : Sp} (F : FnP K "_law_kind" (top 30) f fd) (T : Bl K mg)
    (FD : FnP K "_law_draw" (top 26) fD fdD) (gD : mg "_law_draw" = some (.ref fD)) (bD : Binds K fdD ["_law_well_here", "_law_many"] [])
    (FP : FnP K "_law_pick" (top 27) fP fdP) (gP : mg "_law_pick" = some (.ref fP)) (bP : Binds K fdP ["_law_well_here", "_law_some"] [])
    (gR : mg "_law_kind" = some (.ref f)) (bR : Binds K fd ["_law_well_here", "_law_deep", "_law_which"] []) (GR : FnOk P w K mg base CX0 (3 + n) f fd ["_law_well_here", "_law_deep", "_law_which"] spR)
    (hR : ∀ m, n = m + 1 → ∀ vs H Q, spKind m vs H Q E0 → spR vs H Q E0) : FnOk P w K mg base CX0 (3 + n + 1) f fd ["_law_well_here", "_law_deep", "_law_which"] (spKind n) := by
  have GD : FnOk P w K mg base CX0 1 fD fdD ["_law_well_here", "_law_many"] spDraw := ok_draw FD T
  have GP : FnOk P w K mg base CX0 2 fP fdP ["_law_well_here", "_law_some"] (spPick K) := ok_pick FP T FD gD bD
  refine F.ok scKind (fun vs H Q E h => ?_) (fun cdv A outer s H vs Q E hr h => ?_)
  · obtain ⟨w, wh, c, rfl, _⟩ := h
    rfl
  · obtain ⟨w, wh, c, rfl, hw, hc, q⟩ := h
    have sc := scKind
    have hrD : Room 1 _ := hr.mono (by omega)
    have hrP : Room 2 _ := hr.mono (by omega)
    have hrR : Room (3 + n) _ := hr
    have t2 := Ck_ge n
    refine ⟨_, PSs.nox (pss_cons (ps_set (i := 3) sc.nd rfl (Or.inl rfl) (pe_ifExp (pt_cmpR op_gt (pv 1) pe_int (nomark _)) (pe_call GD hrD rfl gD FD.kp bD .nil pass0 (pa_cons (pv 0) (pa_cons pe_int pa_nil))) (pe_call GD hrD rfl gD FD.kp bD .nil pass0 (pa_cons (pv 0) (pa_cons pe_int pa_nil))))) (pss_cons (ps_if (pt_cmpR op_lt (pv 3) pe_int (nomark _)) (pss_cons (ps_if (PW.pt (pw_and (pt_cmpR op_lt (pv 3) pe_int (nomark _)) (pw_and1 (pt_cmpR op_lt (pv 2) pe_int (nomark _))))) (pss_one (ps_ret (pe_tup (pa_cons pe_str (pa_cons (pe_call GP hrP rfl gP FP.kp bP .nil pass0 (pa_cons (pv 0) (pa_cons (pe_tup (pa_cons pe_str (pa_cons pe_str (pa_cons pe_str pa_nil)))) pa_nil))) pa_nil))))) pss_nil) (pss_one (ps_ret (pe_ifExp (pt_cmpR op_eq (pv 3) pe_int (nomark _)) (pe_tup (pa_cons pe_str pa_nil)) (pe_tup (pa_cons pe_str pa_nil)))))) pss_nil) (pss_cons (ps_set (i := 4) sc.nd rfl (Or.inl rfl) (pe_ix ix_tup (pe_tup (pa_cons pe_str (pa_cons pe_str (pa_cons pe_str (pa_cons pe_str (pa_cons pe_str (pa_cons pe_str (pa_cons pe_str (pa_cons pe_str pa_nil))))))))) (pe_op op_sub (pv 3) pe_int) (fun _ _ => rfl))) (pss_cons (ps_set (i := 5) sc.nd rfl (Or.inl rfl) (pe_call GR hrR rfl gR F.kp bR .nil pass0 (pa_cons (pv 0) (pa_cons (pe_op op_sub (pv 1) pe_int) (pa_cons (pv 2) pa_nil))))) (pss_cons (ps_if (pt_cmpR op_eq (pv 4) pe_str (nomark _)) (pss_one (ps_ret (pe_tup (pa_cons (pv 4) (pa_cons (pv 5) pa_nil))))) pss_nil) (pss_cons (ps_if (PW.pt (pw_and (pt_cmpR op_eq (pv 4) pe_str (nomark _)) (pw_and1 (pt_cmpR op_in_seq (pv 2) (pe_tup (pa_cons pe_int (pa_cons pe_int pa_nil))) (by rfl))))) (pss_one (ps_set (i := 4) sc.nd rfl (Or.inl rfl) pe_str)) pss_nil) (pss_one (ps_ret (pe_tup (pa_cons (pv 4) (pa_cons (pv 5) (pa_cons (pe_call GR hrR rfl gR F.kp bR .nil pass0 (pa_cons (pv 0) (pa_cons (pe_op op_sub (pv 1) pe_int) (pa_cons (pv 2) pa_nil)))) pa_nil)))))))))))), ?_⟩
    -- the branch
    refine kind_draw (n := n) rfl rfl hw (by omega) fun b c1 H1 b0 b1 k1 w1 e1 => ?_
    have big : ∀ k : Nat, k ≤ 1000 → k ≤ sizeLine := fun k h => Nat.le_of_lt (small1000 h)
    have lay : ∀ {c2 : Int} {H2 : Hp} {p : Addr} {xs : List V} {ds : List PyData}, Wl H2 w c2 → H2 p = none → DtA (Nw w) H2 xs ds → Dt (Nw w) (upd H2 p (.tup xs)) (.ref p) (.tuple ds) := fun w2 np dd =>
      .tup (w2.ne np).symm upd_same (dd.kw (Kw.new np))
    refine ⟨_, rfl, _, _, rfl, rfl, _, rfl, ite2 (fun g => ?_) (fun g => ?_)⟩
    · have leaf : ∀ {Q' : VK}, (∀ v H', Q' v H' = Q v H') → tIf (tTest (tOp rEq (tVar 3) (tC (V.int 3)))) (tTup (tCons (tC (V.str "unit")) tNil)) (tTup (tCons (tC (V.str "num")) tNil)) [some (.ref w), some (.int n), some (.int wh), some (.int b), none, none] H1 Q' := fun hQ => by
        refine ⟨_, rfl, rfl, _, rfl, ite2 (fun g3 => ?_) (fun g3 => ?_)⟩
        · refine ⟨big _ (by decide), fun p np => ?_⟩
          rw [hQ]
          exact q _ .unit c1 _ (lay w1 np (.cons (.str _) .nil)) (Nat.le_max_right _ _) (fun _ => rfl) (fun _ => rfl) (k1.trans (Kw.new np)) (w1.same (Same.new np)) (by omega)
        · refine ⟨big _ (by decide), fun p np => ?_⟩
          rw [hQ]
          exact q _ .num c1 _ (lay w1 np (.cons (.str _) .nil)) (Nat.le_max_right _ _) (fun _ => rfl) (fun _ => rfl) (k1.trans (Kw.new np)) (w1.same (Same.new np)) (by omega)
      refine ⟨_, rfl, _, _, rfl, rfl, _, rfl, ite2 (fun g1 => ?_) (fun g1 => ?_)⟩
      · refine ⟨_, rfl, _, _, rfl, rfl, _, rfl, ite2 (fun g2 => ?_) (fun g2 => ?_)⟩
        · -- a variable
          have wh2 : wh < 2 := of_decide_eq_true g2
          refine ⟨_, rfl, big _ (by decide), fun t nt => ?_⟩
          have sm := @Same.new t _ (.tup [.str "a", .str "b", .str "c"]) nt
          refine ⟨w, t, _, c1, rfl, w1.same sm, by omega, SqT.of upd_same, by decide, by decide, fun i v c2 H2 hi k2 w2 e2 => ?_⟩
          obtain ⟨x, rfl⟩ : ∃ x, v = V.str x := by
            match i, hi with
            | 0, hi => exact ⟨_, (Option.some.inj hi).symm⟩
            | 1, hi => exact ⟨_, (Option.some.inj hi).symm⟩
            | 2, hi => exact ⟨_, (Option.some.inj hi).symm⟩
          refine ⟨big _ (by show (2 : Nat) ≤ 1000; decide), fun p np => ?_⟩
          exact q _ (.var x) c2 _ (lay w2 np (.cons (.str _) (.cons (.str _) .nil))) (Nat.le_max_right _ _) (fun z => absurd z (by omega)) (fun _ => rfl) (k1.trans ((Kw.same sm).trans (k2.trans (Kw.new np)))) (w2.same (Same.new np)) (by omega)
        · exact leaf fun _ _ => rfl
      · exact iteF (leaf fun _ _ => rfl)
    · have g4 : ¬ b < 4 := of_decide_eq_false (by simpa using g)
      have gn : 1 < (n : Int) ∧ b < 12 := b1.resolve_left g4
      obtain ⟨m, rfl⟩ : ∃ m, n = m + 1 := by
        cases n with
        | zero => exact absurd gn.1 (by decide)
        | succ m => exact ⟨m, rfl⟩
      have tm := Ck_ge m
      have tt : Ck (m + 1) = 2 * Ck m + 2 := rfl
      refine ⟨big _ (by decide), fun t nt => ?_⟩
      have sm := @Same.new t _ (.tup [.str "list", .str "list", .str "pair", .str "pair", .str "either", .str "either", .str "fun", .str "fun"]) nt
      obtain ⟨j, hj⟩ := Int.eq_ofNat_of_zero_le (show (0 : Int) ≤ b - 4 by omega)
      have j8 : j < 8 := by omega
      obtain ⟨wd, hwd, hw4⟩ : ∃ wd : Str, ([V.str "list", .str "list", .str "pair", .str "pair", .str "either", .str "either", .str "fun", .str "fun"])[j]? = some (.str wd) ∧ (wd = "list" ∨ wd = "pair" ∨ wd = "either" ∨ wd = "fun") := by
        match j, j8 with
        | 0, _ => exact ⟨_, rfl, .inl rfl⟩
        | 1, _ => exact ⟨_, rfl, .inl rfl⟩
        | 2, _ => exact ⟨_, rfl, .inr (.inl rfl)⟩
        | 3, _ => exact ⟨_, rfl, .inr (.inl rfl)⟩
        | 4, _ => exact ⟨_, rfl, .inr (.inr (.inl rfl))⟩
        | 5, _ => exact ⟨_, rfl, .inr (.inr (.inl rfl))⟩
        | 6, _ => exact ⟨_, rfl, .inr (.inr (.inr rfl))⟩
        | 7, _ => exact ⟨_, rfl, .inr (.inr (.inr rfl))⟩
      refine ⟨_, rfl, _, _, rfl, rfl, t, _, _, _, rfl, rfl, SqT.of upd_same, (by rw [hj]; exact atI_nat hwd), ?_⟩
      refine ⟨_, rfl, _, rfl, _, _, rfl, rfl, _, rfl, ?_⟩; refine hR m rfl _ _ _ ⟨w, wh, c1, ?_, w1.same sm, by omega, fun v1 kd1 c2 H2 dv1 dp1 cl1 nf1 k2 w2 e2 => ?_⟩
      · show [V.ref w, V.int (((m + 1 : Nat) : Int) - 1), V.int wh] = _
        rw [show (((m + 1 : Nat) : Int) - 1) = (m : Int) by omega]
      have k02 := k1.trans ((Kw.same sm).trans k2)
      have m1 : 1 ≤ m := by omega
      have dp1' : kd1.dep ≤ m := Nat.le_trans dp1 (by omega)
      refine ⟨_, rfl, rfl, _, rfl, ite2 (fun gl => ?_) (fun gl => ?_)⟩
      · have el : wd = "list" := V.str.inj (of_decide_eq_true gl)
        subst el
        refine ⟨_, rfl, _, rfl, big _ (by show (2 : Nat) ≤ 1000; decide), fun p np => ?_⟩
        refine q _ (.lst kd1) c2 _ (lay w2 np (.cons (.str _) (.cons dv1 .nil))) ?_ (fun z => cl1 z) (fun z => nf1 z) (k02.trans (Kw.new np)) (w2.same (Same.new np)) (by omega)
        show kd1.dep + 1 ≤ max (m + 1) 1
        omega
      · have nl : wd ≠ "list" := fun z => of_decide_eq_false (p := V.str wd = V.str "list") (by simpa using gl) (congrArg V.str z)
        have two : ∀ (wd2 : Str) (kd : Kd → Kd → Kd), (∀ a b, (kd a b).d = .tuple [.str wd2, a.d, b.d]) → (∀ a b, (kd a b).dep = max a.dep b.dep + 1) → (∀ a b, a.closed = true → b.closed = true → (kd a b).closed = true) →
            (wh = 1 ∨ wh = 2 → ∀ a b, a.noFn = true → b.noFn = true → (kd a b).noFn = true) → ∀ H3 : Hp, Kw w H2 H3 → Wl H3 w c2 →
            tTup (tCons (tVar 4) (tCons (tVar 5) (tCons (tCall spR [] E0 (tCons (tVar 0) (tCons (tOp (rI0 fun i j => V.int (i - j)) (tVar 1) (tC (V.int 1))) (tCons (tVar 2) tNil)))) tNil)))
              [some (.ref w), some (.int ((m + 1 : Nat) : Int)), some (.int wh), some (.int b), some (.str wd2), some v1] H3 Q := by
          intro wd2 kd hd hdep hcl hnf H3 k3 w3
          refine ⟨_, rfl, _, rfl, _, rfl, _, rfl, _, _, rfl, rfl, _, rfl, ?_⟩
          refine hR m rfl _ _ _ ⟨w, wh, c2, ?_, w3, by omega, fun v2 kd2 c4 H4 dv2 dp2 cl2 nf2 k4 w4 e4 => ?_⟩
          · show [V.ref w, V.int (((m + 1 : Nat) : Int) - 1), V.int wh] = _
            rw [show (((m + 1 : Nat) : Int) - 1) = (m : Int) by omega]
          refine ⟨big _ (by show (3 : Nat) ≤ 1000; decide), fun p np => ?_⟩
          have dp2' : kd2.dep ≤ m := Nat.le_trans dp2 (by omega)
          refine q _ (kd kd1 kd2) c4 _ (by rw [hd]; exact lay w4 np (.cons (.str _) (.cons ((dv1.kw k3).kw k4) (.cons dv2 .nil)))) ?_ (fun z => hcl _ _ (cl1 z) (cl2 z)) (fun z => hnf z _ _ (nf1 z) (nf2 z)) (k02.trans (k3.trans (k4.trans (Kw.new np)))) (w4.same (Same.new np)) (by omega)
          rw [hdep]
          omega
        have pairK : ∀ H3 : Hp, Kw w H2 H3 → Wl H3 w c2 → _ := two "pair" .pair (fun _ _ => rfl) (fun _ _ => rfl) (fun _ _ x y => by simp only [Kd.closed, x, y]; rfl) (fun _ _ _ x y => by simp only [Kd.noFn, x, y]; rfl)
        refine ⟨_, rfl, rfl, _, rfl, ite2 (fun gf => ?_) (fun gf => ?_)⟩
        · have ef : wd = "fun" := V.str.inj (of_decide_eq_true gf)
          subst ef
          refine ⟨_, rfl, big _ (by decide), fun t2 nt2 => ?_⟩
          have sm2 := @Same.new t2 _ (.tup [.int 1, .int 2]) nt2
          refine ⟨t2, _, rfl, .inr (SqT.of upd_same), rfl, rfl, _, rfl, ite2 (fun gi => ?_) (fun gi => ?_)⟩
          · exact pairK _ (Kw.same sm2) (w2.same sm2)
          · refine two "fun" .fn (fun _ _ => rfl) (fun _ _ => rfl) (fun _ _ x y => by simp only [Kd.closed, x, y]; rfl) (fun z => ?_) _ (Kw.same sm2) (w2.same sm2)
            exfalso
            rcases z with z | z
            · subst z
              exact gi (by decide +kernel)
            · subst z
              exact gi (by decide +kernel)
        · have nf : wd ≠ "fun" := fun z => of_decide_eq_false (p := V.str wd = V.str "fun") (by simpa using gf) (congrArg V.str z)
          refine iteF ?_
          rcases hw4 with e | e | e | e
          · exact absurd e nl
          · subst e
            exact pairK _ (Kw.refl w H2) w2
          · subst e
            exact two "either" .eith (fun _ _ => rfl) (fun _ _ => rfl) (fun _ _ x y => by simp only [Kd.closed, x, y]; rfl) (fun _ _ _ x y => by simp only [Kd.noFn, x, y]; rfl) _ (Kw.refl w H2) w2
          · exact absurd e nf
/-- kind, to any depth -/
theorem ok_kind {f fD fP : Addr} {fd fdD fdP : FuncData} (F : FnP K "_law_kind" (top 30) f fd) (T : Bl K mg)
    (FD : FnP K "_law_draw" (top 26) fD fdD) (gD : mg "_law_draw" = some (.ref fD)) (bD : Binds K fdD ["_law_well_here", "_law_many"] [])
    (FP : FnP K "_law_pick" (top 27) fP fdP) (gP : mg "_law_pick" = some (.ref fP)) (bP : Binds K fdP ["_law_well_here", "_law_some"] [])
    (gR : mg "_law_kind" = some (.ref f)) (bR : Binds K fd ["_law_well_here", "_law_deep", "_law_which"] []) : ∀ n : Nat, FnOk P w K mg base CX0 (3 + n + 1) f fd ["_law_well_here", "_law_deep", "_law_which"] (spKind n)
  | 0 => kind_body 0 (spR := fun _ _ _ _ => False) F T FD gD bD FP gP bP gR bR ⟨fun _ _ _ _ h => h.elim, fun _ _ _ _ _ _ _ _ _ _ _ _ _ h => h.elim⟩ fun m e => by cases e
  | n + 1 => kind_body (n + 1) F T FD gD bD FP gP bP gR bR (ok_kind F T FD gD bD FP gP bP gR bR n) fun m e => by cases e; exact fun _ _ _ h => h
end
end K3
namespace KB
open PySem L2 PySem.Spec PyProof.Rows
def CPowB (i j : Int) : Prop := 0 ≤ j ∧ (Builtin.Int.intBits i : Int) * j ≤ 2 ^ 27
theorem op_powB {X : Cx} : OpR X (binaryOp .Pow) (rI CPowB fun i j => .int (i ^ j.toNat)) := opI fun _ _ _ _ _ _ _ hc q => pow_int hc.1 hc.2 q
theorem gd_int {i : Int} (h : i.natAbs < 10 ^ 12) (n : Nat) {L : Nat} (hL : 13 ≤ L) : Gd n L (.int i) := by
  refine ⟨?_, by simp only [PyData.depth]; omega, Nat.le_trans (PyData.shown_int_le h) hL⟩
  simp only [PyData.showable, decide_eq_true_eq]; have h1 : i.natAbs < 2 ^ 40 := Nat.lt_of_lt_of_le h (by decide)
  have := PySem.Flt.log2_lt_of (k := 40) (by decide) h1
  omega
/-- every number that is drawn is below it -/
def bg : Nat := 10 ^ 310
theorem bg_big {n : Nat} (h : n < 10 ^ 12) : n ≤ bg := Nat.le_of_lt (Nat.lt_trans h (by decide +kernel))
def spNum : Sp := fun vs H Q _ => ∃ (w : Addr) (c : Int), vs = [.ref w] ∧ Wl H w c ∧ c + 3 < 2 ^ 60 ∧
  ∀ (i c' : Int) (H' : Hp), Gd 0 305 (.int i) → i.natAbs ≤ bg → Kw w H H' → Wl H' w c' → c' ≤ c + 3 → Q (.int i) H'
end KB
namespace K3
open PySem PySem.Spec PyProof.Rows L2 KB
section
variable {K : PySem.W.Frag} {mg : Str → Option Value} {base : Heap} {P : Program} {w : World}
abbrev nNum : List Str := ["_law_well_here", "_law_branch", "_law_great"]
theorem scNum : FnScope nNum ["_law_well_here"] (defScope (top 31)) := ⟨rfl, rfl, rfl, by decide +kernel, rfl, by decide +kernel, by decide +kernel⟩
def greats : List Int := [10 ^ 20, 1 - 10 ^ 20, 65536, -4096, (10 ^ 60) ^ 5, -7 * (10 ^ 60) ^ 5, 10 ^ 15 + 7]
theorem greats_gd : (greats.all fun i => gdB 0 305 (.int i) && decide (i.natAbs ≤ bg)) = true := by decide +kernel
theorem ok_num {f fD fP : Addr} {fd fdD fdP : FuncData} (F : FnP K "_law_number" (top 31) f fd) (T : Bl K mg)
    (FD : FnP K "_law_draw" (top 26) fD fdD) (gD : mg "_law_draw" = some (.ref fD)) (bD : Binds K fdD ["_law_well_here", "_law_many"] [])
    (FP : FnP K "_law_pick" (top 27) fP fdP) (gP : mg "_law_pick" = some (.ref fP)) (bP : Binds K fdP ["_law_well_here", "_law_some"] []) : FnOk P w K mg base CX0 3 f fd ["_law_well_here"] spNum := by
  have GD : FnOk P w K mg base CX0 1 fD fdD ["_law_well_here", "_law_many"] spDraw := ok_draw FD T
  have GP : FnOk P w K mg base CX0 2 fP fdP ["_law_well_here", "_law_some"] (spPick K) := ok_pick FP T FD gD bD
  refine F.ok scNum (fun vs H Q E h => ?_) (fun cdv A outer s H vs Q E hr h => ?_)
  · obtain ⟨w, c, rfl, _⟩ := h
    rfl
  · obtain ⟨w, c, rfl, hw, hc, q⟩ := h
    have sc := scNum
    have hrD : Room 1 _ := hr.mono (by omega)
    have hrP : Room 2 _ := hr.mono (by omega)
    refine ⟨_, PSs.nox (pss_cons (ps_set (i := 1) sc.nd rfl (Or.inl rfl) (pe_call GD hrD rfl gD FD.kp bD .nil pass0 (pa_cons (pv 0) (pa_cons pe_int pa_nil)))) (pss_cons (ps_if (PW.pt (pw_and (pt_cmpR op_eq (pv 1) pe_int (nomark _)) (pw_and1 (pt_cmpR op_gt (pe_ix ix_list (pv 0) pe_int (fun _ _ => rfl)) pe_int (nomark _))))) (pss_cons (ps_asg (pe_op op_sub (pe_ix ix_list (pv 0) pe_int (fun _ _ => rfl)) pe_int) (pg_sub (pv 0) pe_int set_list)) (pss_cons (ps_set (i := 2) sc.nd rfl (Or.inl rfl) (pe_op op_powB (pe_op op_pow pe_int pe_int) pe_int)) (pss_one (ps_ret (pe_call GP hrP rfl gP FP.kp bP .nil pass0 (pa_cons (pv 0) (pa_cons (pe_tup (pa_cons (pe_op op_pow pe_int pe_int) (pa_cons (pe_op op_sub pe_int (pe_op op_pow pe_int pe_int)) (pa_cons pe_int (pa_cons (pe_un un_neg pe_int) (pa_cons (pv 2) (pa_cons (pe_op op_mul (pe_un un_neg pe_int) (pv 2)) (pa_cons (pe_op op_add (pe_op op_pow pe_int pe_int) pe_int) pa_nil)))))))) pa_nil))))))) pss_nil) (pss_one (ps_ret (pe_ifExp (pt_cmpR op_lt (pv 1) pe_int (nomark _)) (pe_call GD hrD rfl gD FD.kp bD .nil pass0 (pa_cons (pv 0) (pa_cons pe_int pa_nil))) (pe_op op_sub (pe_call GD hrD rfl gD FD.kp bD .nil pass0 (pa_cons (pv 0) (pa_cons pe_int pa_nil))) pe_int)))))), ?_⟩
    have big : ∀ k : Nat, k ≤ 1000 → k ≤ sizeLine := fun k h => Nat.le_of_lt (small1000 h)
    refine ⟨_, rfl, w, 9, c, rfl, hw, by omega, by decide, by decide, fun b c1 H1 b0 b1 k1 w1 e1 => ?_⟩
    have rest : tIf (tTest (tOp (rI0 fun i j => V.bl (decide (i < j))) (tVar 1) (tC (V.int 4)))) (tCall spDraw [] E0 (tCons (tVar 0) (tCons (tC (V.int 4)) tNil)))
        (tOp (rI0 fun i j => V.int (i - j)) (tCall spDraw [] E0 (tCons (tVar 0) (tCons (tC (V.int 39)) tNil))) (tC (V.int 19))) [some (.ref w), some (.int b), none] H1 Q := by
      refine ⟨_, rfl, _, _, rfl, rfl, _, rfl, ite2 (fun g => ?_) (fun g => ?_)⟩
      · refine ⟨_, rfl, w, 4, c1, rfl, w1, by omega, by decide, by decide, fun r c2 H2 r0 r1 k2 w2 e2 => ?_⟩
        exact q _ c2 _ (gd_int (by omega) _ (by decide)) (bg_big (by omega)) (k1.trans k2) w2 (by omega)
      · refine ⟨_, rfl, w, 39, c1, rfl, w1, by omega, by decide, by decide, fun r c2 H2 r0 r1 k2 w2 e2 => ⟨_, _, rfl, rfl, ?_⟩⟩
        exact q _ c2 _ (gd_int (by omega) _ (by decide)) (bg_big (by omega)) (k1.trans k2) w2 (by omega)
    obtain ⟨n, m, z, hw1, hn, hm, hm2, hc1⟩ := id w1
    refine ⟨_, rfl, rfl, _, rfl, ite2 (fun g => ?_) (fun g => ?_)⟩
    · refine ⟨_, rfl, w, _, _, _, rfl, rfl, SqL.of hw1, at3, _, _, rfl, rfl, _, rfl, ite2 (fun g2 => ?_) (fun g2 => ?_)⟩
      · refine ⟨_, rfl, w, _, _, _, rfl, rfl, SqL.of hw1, at3, _, _, rfl, rfl, _, rfl, w, _, 3, 3, rfl, rfl, hw1, rfl, ?_⟩
        have w2 : Wl (upd H1 w (.lst [.int n, .int m, .int c1, .int (z - 1)])) w c1 := ⟨n, m, z - 1, upd_same, hn, hm, hm2, hc1⟩
        have h2 : upd H1 w (.lst [.int n, .int m, .int c1, .int (z - 1)]) w = some (.lst [.int n, .int m, .int c1, .int (z - 1)]) := upd_same
        have p1 : CPow 10 60 := ⟨by decide, by decide, by decide⟩
        have p2 : CPow 10 20 := ⟨by decide, by decide, by decide⟩
        have p3 : CPow 10 15 := ⟨by decide, by decide, by decide⟩
        have p4 : CPowB (10 ^ (60 : Int).toNat) 5 := ⟨by decide, by decide +kernel⟩
        refine ⟨_, _, rfl, rfl, p1, _, _, rfl, rfl, p4, ?_⟩
        refine ⟨_, rfl, _, _, rfl, rfl, p2, _, _, rfl, rfl, p2, _, _, rfl, rfl, _, rfl, _, rfl, _, rfl, _, rfl, _, _, rfl, rfl, .inl ⟨by decide, by decide⟩, _, _, rfl, rfl, p3, _, _, rfl, rfl, big _ (by show (7 : Nat) ≤ 1000; decide), fun t nt => ?_⟩
        have sm := @Same.new t _ (.tup (greats.map V.int)) nt
        refine ⟨w, t, greats.map V.int, c1, rfl, w2.same sm, by omega, SqT.of upd_same, by decide, by decide, fun i v c3 H3 hi k3 w3 e3 => ?_⟩
        obtain ⟨j, hj, rfl⟩ : ∃ j, greats[i]? = some j ∧ V.int j = v := by
          rw [List.getElem?_map] at hi
          cases e : greats[i]? with
          | none =>
            rw [e] at hi
            cases hi
          | some j =>
            rw [e] at hi
            exact ⟨j, rfl, Option.some.inj hi⟩
        obtain ⟨gj, bj⟩ := Bool.and_eq_true_iff.mp (List.all_eq_true.mp greats_gd j (List.mem_of_getElem? hj))
        exact q j c3 _ (gdB_ok gj) (of_decide_eq_true bj) (k1.trans (Kw.put.trans ((Kw.same sm).trans k3))) w3 (by omega)
      · exact rest
    · exact iteF rest
end
end K3
namespace KB
open PySem L2 PySem.Spec PyProof.Rows
/-! ### a size that adds up -/
mutual
def sz : PyData → Nat
  | .tuple ds => szA ds + 3
  | .list ds => szA ds + 3
  | .none => PyData.none.shown.length
  | .bool b => (PyData.bool b).shown.length
  | .int i => (PyData.int i).shown.length
  | .str x => (PyData.str x).shown.length
  | .dict k => (PyData.dict k).shown.length
def szA : List PyData → Nat
  | [] => 0
  | d :: ds => sz d + 2 + szA ds
end
theorem szA_app : ∀ a b : List PyData, szA (a ++ b) = szA a + szA b
  | [], b => by rw [List.nil_append, szA, Nat.zero_add]
  | d :: a, b => by
    rw [List.cons_append, szA, szA, szA_app a b]
    omega
theorem szA_len : ∀ a : List PyData, 2 * a.length ≤ szA a
  | [] => Nat.zero_le _
  | d :: a => by
    have := szA_len a
    rw [List.length_cons, szA]
    omega
theorem szA_mem : ∀ {a : List PyData} {d : PyData}, d ∈ a → sz d + 2 ≤ szA a
  | d :: a, e, h => by
    rw [szA]
    rcases List.mem_cons.mp h with h | h
    · rw [h]
      omega
    · have := szA_mem h
      omega
mutual
theorem sz_shown : ∀ d : PyData, d.shown.length ≤ sz d
  | .tuple ds => by
    have h := szA_shown ds
    have q := tupleText_len_le (PyData.shownAll ds)
    rw [PyData.shownAll_length] at q
    simp only [PyData.shown, sz]
    omega
  | .list ds => by
    have h := szA_shown ds
    have q := listText_len_le (PyData.shownAll ds)
    rw [PyData.shownAll_length] at q
    simp only [PyData.shown, sz]
    omega
  | .none => by rw [sz]; exact Nat.le_refl _
  | .bool _ => by rw [sz]; exact Nat.le_refl _
  | .int _ => by rw [sz]; exact Nat.le_refl _
  | .str _ => by rw [sz]; exact Nat.le_refl _
  | .dict _ => by rw [sz]; exact Nat.le_refl _
theorem szA_shown : ∀ ds : List PyData, ((PyData.shownAll ds).map (·.length)).sum + 2 * ds.length ≤ szA ds
  | [] => by simp [PyData.shownAll, szA]
  | d :: ds => by
    have h1 := sz_shown d
    have h2 := szA_shown ds
    simp only [PyData.shownAll, List.map_cons, List.sum_cons, List.length_cons, szA]
    omega
end
/-- shows, is at most n deep, at most L long -/
structure Sd (n L : Nat) (d : PyData) : Prop where
  sh : d.showable = true
  dp : d.depth ≤ n
  ln : sz d ≤ L
theorem Sd.gd {n L : Nat} {d : PyData} (h : Sd n L d) : Gd n L d := ⟨h.sh, h.dp, Nat.le_trans (sz_shown d) h.ln⟩
theorem Sd.mono {n L m M : Nat} {d : PyData} (h : Sd n L d) (a : n ≤ m) (b : L ≤ M) : Sd m M d := ⟨h.sh, Nat.le_trans h.dp a, Nat.le_trans h.ln b⟩
def sdB (n L : Nat) (d : PyData) : Bool := d.showable && (decide (d.depth ≤ n) && decide (sz d ≤ L))
theorem sdB_ok {n L : Nat} {d : PyData} (h : sdB n L d = true) : Sd n L d := by
  obtain ⟨h1, h2⟩ := Bool.and_eq_true_iff.mp h
  obtain ⟨h3, h4⟩ := Bool.and_eq_true_iff.mp h2
  exact ⟨h1, of_decide_eq_true h3, of_decide_eq_true h4⟩
theorem Gd.sd {n L : Nat} {i : Int} (h : Gd n L (.int i)) : Sd n L (.int i) := ⟨h.sh, h.dp, by rw [sz]; exact h.ln⟩
/-- a row of data: all show, none is deeper than n -/
structure SdA (n L : Nat) (ds : List PyData) : Prop where
  sh : PyData.showableAll ds = true
  dp : PyData.depthAll ds ≤ n
  ln : szA ds ≤ L
theorem SdA.mono {n L m M : Nat} {d : List PyData} (h : SdA n L d) (a : n ≤ m) (b : L ≤ M) : SdA m M d := ⟨h.sh, Nat.le_trans h.dp a, Nat.le_trans h.ln b⟩
theorem SdA.nil {n L : Nat} : SdA n L [] := ⟨by simp [PyData.showableAll], by simp [PyData.depthAll], by rw [szA]; exact Nat.zero_le _⟩
theorem SdA.cons {n L M : Nat} {d : PyData} {ds : List PyData} (h : Sd n L d) (r : SdA n M ds) : SdA n (L + 2 + M) (d :: ds) :=
  ⟨by simp only [PyData.showableAll, h.sh, r.sh, Bool.and_self], by simp only [PyData.depthAll]; exact Nat.max_le.mpr ⟨h.dp, r.dp⟩, by have := h.ln; have := r.ln; rw [szA]; omega⟩
theorem SdA.app {n L M : Nat} : ∀ {a b : List PyData}, SdA n L a → SdA n M b → SdA n (L + M) (a ++ b)
  | [], b, _, h => by
    rw [List.nil_append]
    exact h.mono (Nat.le_refl _) (Nat.le_add_left _ _)
  | d :: a, b, ha, hb => by
    have s1 : d.showable = true ∧ PyData.showableAll a = true := by simpa [PyData.showableAll] using ha.sh
    have d1 : d.depth ≤ n ∧ PyData.depthAll a ≤ n := by simpa [PyData.depthAll, Nat.max_le] using ha.dp
    have l1 : sz d + 2 + szA a ≤ L := by simpa [szA] using ha.ln
    have r : SdA n (szA a + M) (a ++ b) := SdA.app ⟨s1.2, d1.2, Nat.le_refl _⟩ hb
    exact (SdA.cons (L := sz d) ⟨s1.1, d1.1, Nat.le_refl _⟩ r).mono (Nat.le_refl _) (by omega)
theorem SdA.all {n L : Nat} : ∀ {a : List PyData}, SdA n L a → ∀ d ∈ a, Sd n L d
  | d :: a, h, e, m => by
    have s1 : d.showable = true ∧ PyData.showableAll a = true := by simpa [PyData.showableAll] using h.sh
    have d1 : d.depth ≤ n ∧ PyData.depthAll a ≤ n := by simpa [PyData.depthAll, Nat.max_le] using h.dp
    have l1 : sz d + 2 + szA a ≤ L := by simpa [szA] using h.ln
    rcases List.mem_cons.mp m with z | z
    · rw [z]
      exact ⟨s1.1, d1.1, by omega⟩
    · exact SdA.all (L := L) ⟨s1.2, d1.2, by omega⟩ e z
theorem SdA.sub {n L : Nat} {a b : List PyData} (h : SdA n L a) (s : b.Sublist a) : SdA n L b := by
  induction s generalizing L with
  | slnil => exact h
  | @cons l1 l2 x s ih =>
    have s1 : x.showable = true ∧ PyData.showableAll l2 = true := by simpa [PyData.showableAll] using h.sh
    have d1 : x.depth ≤ n ∧ PyData.depthAll l2 ≤ n := by simpa [PyData.depthAll, Nat.max_le] using h.dp
    have l1 : sz x + 2 + szA l2 ≤ L := by simpa [szA] using h.ln
    exact ih ⟨s1.2, d1.2, by omega⟩
  | @cons_cons l1 l2 x s ih =>
    have s1 : x.showable = true ∧ PyData.showableAll l2 = true := by simpa [PyData.showableAll] using h.sh
    have d1 : x.depth ≤ n ∧ PyData.depthAll l2 ≤ n := by simpa [PyData.depthAll, Nat.max_le] using h.dp
    have l1 : sz x + 2 + szA l2 ≤ L := by simpa [szA] using h.ln
    exact (SdA.cons (L := sz x) ⟨s1.1, d1.1, Nat.le_refl _⟩ (ih (L := szA l2) ⟨s1.2, d1.2, Nat.le_refl _⟩)).mono (Nat.le_refl _) (by omega)
theorem SdA.tup {n L : Nat} {a : List PyData} (h : SdA n L a) : Sd (n + 1) (L + 3) (.tuple a) := ⟨by simp only [PyData.showable, h.sh], by have := h.dp; simp only [PyData.depth]; omega, by have := h.ln; rw [sz]; omega⟩
theorem SdA.lst {n L : Nat} {a : List PyData} (h : SdA n L a) : Sd (n + 1) (L + 3) (.list a) := ⟨by simp only [PyData.showable, h.sh], by have := h.dp; simp only [PyData.depth]; omega, by have := h.ln; rw [sz]; omega⟩
theorem Sd.parts {n L : Nat} {a : List PyData} (h : Sd n L (.tuple a)) : SdA n L a := ⟨by have := h.sh; simpa only [PyData.showable] using this, by have := h.dp; simp only [PyData.depth] at this; omega, by have := h.ln; rw [sz] at this; omega⟩
theorem Sd.parts1 {n L : Nat} {a : List PyData} (h : Sd (n + 1) L (.tuple a)) : SdA n L a := ⟨by have := h.sh; simpa only [PyData.showable] using this, by have := h.dp; simp only [PyData.depth] at this; omega, by have := h.ln; rw [sz] at this; omega⟩
theorem sdA_of {n L : Nat} : ∀ {ds : List PyData}, (∀ d ∈ ds, Sd n L d) → SdA n ((L + 2) * ds.length) ds
  | [], _ => SdA.nil
  | d :: ds, h => (SdA.cons (h d List.mem_cons_self) (sdA_of fun x hx => h x (List.mem_cons_of_mem _ hx))).mono (Nat.le_refl _) (by rw [List.length_cons, Nat.mul_add]; omega)
theorem sd_tup {n L m : Nat} {ds : List PyData} (h : ∀ d ∈ ds, Sd n L d) (hm : ds.length ≤ m) : Sd (n + 1) ((L + 2) * m + 3) (.tuple ds) :=
  (sdA_of h).tup.mono (Nat.le_refl _) (Nat.add_le_add_right (Nat.mul_le_mul_left _ hm) 3)
theorem Sd.len {n L : Nat} {a : List PyData} (h : Sd n L (.tuple a)) : 2 * a.length ≤ L := by
  have := szA_len a
  have := h.parts.ln
  omega
end KB
namespace KB
open PySem L2 PySem.Spec PyProof.Rows
theorem ifT {c : Bool} {A B : Prop} (hc : c = true) (h : A) : if c = true then A else B := by
  rw [if_pos hc]
  exact h
theorem ifF {c : Bool} {A B : Prop} (hc : c = false) (h : B) : if c = true then A else B := by
  rw [hc, if_neg Bool.false_ne_true]; exact h
/-! ### values of a kind -/
def isV : Kd → PyData → Bool
  | .num, .int _ => true
  | .unit, .tuple [] => true
  | .lst a, .tuple xs => xs.all fun x => isV a x
  | .pair a b, .tuple [.str p, x, y] => decide (p = "pair") && (isV a x && isV b y)
  | .eith a b, .tuple [.str p, x] => if p = "left" then isV a x else decide (p = "right") && isV b x
  | _, _ => false
/-- a value, by its kind -/
inductive VV (N : Nat) : Kd → PyData → Prop
  | num (i : Int) (h : i.natAbs ≤ bg + 10 * N) : VV N .num (.int i)
  | unit : VV N .unit (.tuple [])
  | lst {a : Kd} {xs : List PyData} (hl : xs.length ≤ N) (h : ∀ x ∈ xs, VV N a x) : VV N (.lst a) (.tuple xs)
  | pair {a b : Kd} {x y : PyData} (hx : VV N a x) (hy : VV N b y) : VV N (.pair a b) (.tuple [.str "pair", x, y])
  | left {a b : Kd} {x : PyData} (hx : VV N a x) : VV N (.eith a b) (.tuple [.str "left", x])
  | right {a b : Kd} {x : PyData} (hx : VV N b x) : VV N (.eith a b) (.tuple [.str "right", x])
theorem Dt.tupI {F : Addr → Prop} {H : Hp} {v : V} {ds : List PyData} (h : Dt F H v (.tuple ds)) : ∃ a xs, v = .ref a ∧ F a ∧ H a = some (.tup xs) ∧ DtA F H xs ds := by
  cases h with
  | tup f h r => exact ⟨_, _, rfl, f, h, r⟩
theorem Dt.strI {F : Addr → Prop} {H : Hp} {v : V} {x : Str} (h : Dt F H v (.str x)) : v = .str x := by
  cases h
  rfl
theorem Dt.intI {F : Addr → Prop} {H : Hp} {v : V} {x : Int} (h : Dt F H v (.int x)) : v = .int x := by
  cases h
  rfl
theorem DtA.one {F : Addr → Prop} {H : Hp} {xs : List V} {d : PyData} (h : DtA F H xs [d]) : ∃ x, xs = [x] ∧ Dt F H x d := by
  cases h with
  | cons a r =>
    cases r
    exact ⟨_, rfl, a⟩
theorem DtA.two {F : Addr → Prop} {H : Hp} {xs : List V} {d e : PyData} (h : DtA F H xs [d, e]) : ∃ x y, xs = [x, y] ∧ Dt F H x d ∧ Dt F H y e := by
  cases h with
  | cons a r =>
    obtain ⟨y, rfl, b⟩ := r.one
    exact ⟨_, _, rfl, a, b⟩
theorem DtA.three {F : Addr → Prop} {H : Hp} {xs : List V} {d e f : PyData} (h : DtA F H xs [d, e, f]) : ∃ x y z, xs = [x, y, z] ∧ Dt F H x d ∧ Dt F H y e ∧ Dt F H z f := by
  cases h with
  | cons a r =>
    obtain ⟨y, z, rfl, b, c⟩ := r.two
    exact ⟨_, _, _, rfl, a, b, c⟩
/-- a kind as it lies there -/
def KdAt (F : Addr → Prop) (H : Hp) (a : Addr) : Kd → Prop
  | .num => H a = some (.tup [.str "num"])
  | .unit => H a = some (.tup [.str "unit"])
  | .var x => H a = some (.tup [.str "var", .str x])
  | .lst k => ∃ x, H a = some (.tup [.str "list", x]) ∧ Dt F H x k.d
  | .pair k l => ∃ x y, H a = some (.tup [.str "pair", x, y]) ∧ Dt F H x k.d ∧ Dt F H y l.d
  | .eith k l => ∃ x y, H a = some (.tup [.str "either", x, y]) ∧ Dt F H x k.d ∧ Dt F H y l.d
  | .fn k l => ∃ x y, H a = some (.tup [.str "fun", x, y]) ∧ Dt F H x k.d ∧ Dt F H y l.d
theorem kd_at {F : Addr → Prop} {H : Hp} {v : V} : ∀ {k : Kd}, Dt F H v k.d → ∃ a, v = .ref a ∧ F a ∧ KdAt F H a k
  | .num, h => by
    obtain ⟨a, xs, rfl, f, h, r⟩ := h.tupI
    obtain ⟨x, rfl, hx⟩ := r.one
    rw [hx.strI] at h
    exact ⟨a, rfl, f, h⟩
  | .unit, h => by
    obtain ⟨a, xs, rfl, f, h, r⟩ := h.tupI
    obtain ⟨x, rfl, hx⟩ := r.one
    rw [hx.strI] at h
    exact ⟨a, rfl, f, h⟩
  | .var y, h => by
    obtain ⟨a, xs, rfl, f, h, r⟩ := h.tupI
    obtain ⟨x, z, rfl, hx, hz⟩ := r.two
    rw [hx.strI, hz.strI] at h
    exact ⟨a, rfl, f, h⟩
  | .lst k, h => by
    obtain ⟨a, xs, rfl, f, h, r⟩ := h.tupI
    obtain ⟨x, z, rfl, hx, hz⟩ := r.two
    rw [hx.strI] at h
    exact ⟨a, rfl, f, z, h, hz⟩
  | .pair k l, h => by
    obtain ⟨a, xs, rfl, f, h, r⟩ := h.tupI
    obtain ⟨x, y, z, rfl, hx, hy, hz⟩ := r.three
    rw [hx.strI] at h
    exact ⟨a, rfl, f, y, z, h, hy, hz⟩
  | .eith k l, h => by
    obtain ⟨a, xs, rfl, f, h, r⟩ := h.tupI
    obtain ⟨x, y, z, rfl, hx, hy, hz⟩ := r.three
    rw [hx.strI] at h
    exact ⟨a, rfl, f, y, z, h, hy, hz⟩
  | .fn k l, h => by
    obtain ⟨a, xs, rfl, f, h, r⟩ := h.tupI
    obtain ⟨x, y, z, rfl, hx, hy, hz⟩ := r.three
    rw [hx.strI] at h
    exact ⟨a, rfl, f, y, z, h, hy, hz⟩
theorem VV.mono {M N : Nat} (h : M ≤ N) : ∀ {k : Kd} {d : PyData}, VV M k d → VV N k d
  | _, _, .num i hi => .num i (by omega)
  | _, _, .unit => .unit
  | _, _, .lst hl r => .lst (Nat.le_trans hl h) fun x hx => (r x hx).mono h
  | _, _, .pair a b => .pair (a.mono h) (b.mono h)
  | _, _, .left a => .left (a.mono h)
  | _, _, .right a => .right (a.mono h)
theorem VV.isV {N : Nat} : ∀ {k : Kd} {d : PyData}, VV N k d → KB.isV k d = true
  | _, _, .num i _ => by simp only [KB.isV]
  | _, _, .unit => by simp only [KB.isV]
  | _, _, .lst hl r => by
    simp only [KB.isV]
    exact List.all_eq_true.mpr fun x hx => (r x hx).isV
  | _, _, .pair a b => by simp only [KB.isV, a.isV, b.isV, decide_true, Bool.and_self]
  | _, _, .left a => by simp only [KB.isV, a.isV, if_true]
  | _, _, .right a => by
    simp only [KB.isV, a.isV, decide_true, Bool.and_self]
    rfl
def VC : Nat → Int
  | 0 => 3
  | n + 1 => 5 * VC n + 5
def VL : Nat → Nat
  | 0 => 305
  | n + 1 => (VL n + 2) * 4 + 3
theorem VC_ge : ∀ n, 3 ≤ VC n
  | 0 => Int.le_refl _
  | n + 1 => by
    have := VC_ge n
    unfold VC
    omega
theorem VL_ge : ∀ n, 305 ≤ VL n
  | 0 => Nat.le_refl _
  | n + 1 => by
    have := VL_ge n
    unfold VL
    omega
/-- value(well, kind) -/
def spVal (n : Nat) : Sp := fun vs H Q _ => ∃ (w : Addr) (kv : V) (k : Kd) (c : Int), vs = [.ref w, kv] ∧ Dt (Nw w) H kv k.d ∧ k.dep ≤ n ∧ k.closed = true ∧ k.noFn = true ∧ Wl H w c ∧ c + VC n < 2 ^ 60 ∧
  ∀ (v : V) (d : PyData) (c' : Int) (H' : Hp), Dt (New H) H' v d → VV 4 k d → Sd n (VL n) d → Kw w H H' → Wl H' w c' → c' ≤ c + VC n → Q v H'
end KB
namespace K3
open PySem PySem.Spec PyProof.Rows L2 KB
section
variable {K : PySem.W.Frag} {mg : Str → Option Value} {base : Heap} {P : Program} {w : World}
abbrev nVal : List Str := ["_law_well_here", "_law_kind_here", "_law_one", "_law_side", "_law_found", "_law_lap"]
theorem scVal : FnScope nVal ["_law_well_here", "_law_kind_here"] (defScope (top 34)) := ⟨rfl, rfl, rfl, by decide +kernel, rfl, by decide +kernel, by decide +kernel⟩
theorem val_body (n : Nat) {f fD fN : Addr} {fd fdD fdN : FuncData} {spR : Sp} (F : FnP K "_law_value" (top 34) f fd) (T : Bl K mg)
    (FD : FnP K "_law_draw" (top 26) fD fdD) (gD : mg "_law_draw" = some (.ref fD)) (bD : Binds K fdD ["_law_well_here", "_law_many"] [])
    (FN : FnP K "_law_number" (top 31) fN fdN) (gN : mg "_law_number" = some (.ref fN)) (bN : Binds K fdN ["_law_well_here"] []) (GN : FnOk P w K mg base CX0 3 fN fdN ["_law_well_here"] spNum)
    (gR : mg "_law_value" = some (.ref f)) (bR : Binds K fd ["_law_well_here", "_law_kind_here"] []) (GR : FnOk P w K mg base CX0 (3 + n) f fd ["_law_well_here", "_law_kind_here"] spR)
    (hR : ∀ m, n = m + 1 → ∀ vs H Q, spVal m vs H Q E0 → spR vs H Q E0) : FnOk P w K mg base CX0 (3 + n + 1) f fd ["_law_well_here", "_law_kind_here"] (spVal n) := by
  have GD : FnOk P w K mg base CX0 1 fD fdD ["_law_well_here", "_law_many"] spDraw := ok_draw FD T
  refine F.ok scVal (fun vs H Q E h => ?_) (fun cdv A outer s H vs Q E hr h => ?_)
  · obtain ⟨w, kv, k, c, rfl, _⟩ := h
    rfl
  · obtain ⟨w, kv, k, c, rfl, hk, hdp, hcl, hnf, hw, hc, q⟩ := h
    have sc := scVal
    have hrD : Room 1 _ := hr.mono (by omega)
    have hrN : Room 3 _ := hr.mono (by omega)
    have hrR : Room (3 + n) _ := hr
    have t2 := VC_ge n
    have l2 := VL_ge n
    refine ⟨_, PSs.nox (pss_cons (ps_if (pt_cmpR op_eq (pe_ix ix_tup (pv 1) pe_int (fun _ _ => rfl)) pe_str (nomark _)) (pss_one (ps_ret (pe_tup pa_nil))) pss_nil) (pss_cons (ps_if (pt_cmpR op_eq (pe_ix ix_tup (pv 1) pe_int (fun _ _ => rfl)) pe_str (nomark _)) (pss_one (ps_ret (pe_call GN hrN rfl gN FN.kp bN .nil pass0 (pa_cons (pv 0) pa_nil)))) pss_nil) (pss_cons (ps_if (pt_cmpR op_eq (pe_ix ix_tup (pv 1) pe_int (fun _ _ => rfl)) pe_str (nomark _)) (pss_cons (ps_set (i := 2) sc.nd rfl (Or.inl rfl) (pe_call GR hrR rfl gR F.kp bR .nil pass0 (pa_cons (pv 0) (pa_cons (pe_ix ix_tup (pv 1) pe_int (fun _ _ => rfl)) pa_nil)))) (pss_one (ps_ret (pe_tup (pa_cons pe_str (pa_cons (pv 2) (pa_cons (pe_call GR hrR rfl gR F.kp bR .nil pass0 (pa_cons (pv 0) (pa_cons (pe_ix ix_tup (pv 1) pe_int (fun _ _ => rfl)) pa_nil))) pa_nil))))))) pss_nil) (pss_cons (ps_if (pt_cmpR op_eq (pe_ix ix_tup (pv 1) pe_int (fun _ _ => rfl)) pe_str (nomark _)) (pss_cons (ps_set (i := 3) sc.nd rfl (Or.inl rfl) (pe_call GD hrD rfl gD FD.kp bD .nil pass0 (pa_cons (pv 0) (pa_cons pe_int pa_nil)))) (pss_one (ps_ret (pe_tup (pa_cons (pe_ix ix_tup (pe_tup (pa_cons pe_str (pa_cons pe_str pa_nil))) (pv 3) (fun _ _ => rfl)) (pa_cons (pe_call GR hrR rfl gR F.kp bR .nil pass0 (pa_cons (pv 0) (pa_cons (pe_ix ix_tup (pv 1) (pe_op op_add pe_int (pv 3)) (fun _ _ => rfl)) pa_nil))) pa_nil)))))) pss_nil) (pss_cons (ps_set (i := 4) sc.nd rfl (Or.inl rfl) (pe_lst pa_nil)) (pss_cons (ps_for PassesOwn.never rfl (pi_range1 rfl T.range (pa_cons (pe_call GD hrD rfl gD FD.kp bD .nil pass0 (pa_cons (pv 0) (pa_cons pe_int pa_nil))) pa_nil)) (pg_name (i := 5) sc.nd rfl (Or.inl rfl)) (pss_one (ps_expr (pe_bm PySem.F.plainAttrs_list PySem.F.slot_list_append PySem.F.type_list_append mt_append (pv 4) (pa_cons (pe_call GR hrR rfl gR F.kp bR .nil pass0 (pa_cons (pv 0) (pa_cons (pe_ix ix_tup (pv 1) pe_int (fun _ _ => rfl)) pa_nil))) pa_nil))))) (pss_one (ps_ret (pe_callTy call_tuple_of (by rfl) T.tuple (by decide +kernel) (pa_cons (pv 4) pa_nil)))))))))), ?_⟩
    have big : ∀ k : Nat, k ≤ 1000 → k ≤ sizeLine := fun k h => Nat.le_of_lt (small1000 h)
    obtain ⟨a, rfl, fa, ka⟩ := kd_at hk
    have no : ∀ {x y : Str}, x ≠ y → decide (V.str x = V.str y) = false := fun h => decide_eq_false fun z => h (V.str.inj z)
    cases k with
    | var x => cases hcl
    | fn x y => cases hnf
    | unit =>
      refine ⟨_, rfl, a, _, 0, _, rfl, rfl, SqT.of ka, rfl, rfl, _, rfl, ifT (decide_eq_true rfl) ⟨Nat.zero_le _, fun p np => ?_⟩⟩
      have n1 : 1 ≤ n := hdp
      exact q _ (.tuple []) c _ (.tup np upd_same .nil) .unit ((sdB_ok (n := 1) (L := 305) (by decide +kernel)).mono n1 l2) (Kw.new np) (hw.same (Same.new np)) (by omega)
    | num =>
      refine ⟨_, rfl, a, _, 0, _, rfl, rfl, SqT.of ka, rfl, rfl, _, rfl, ifF (no (by decide)) ?_⟩
      refine ⟨_, rfl, a, _, 0, _, rfl, rfl, SqT.of ka, rfl, rfl, _, rfl, ifT (decide_eq_true rfl) ?_⟩
      refine ⟨_, rfl, w, c, rfl, hw, by omega, fun i c1 H1 g1 b1 k1 w1 e1 => ?_⟩
      exact q _ _ c1 H1 (.int i) (.num i (Nat.le_trans b1 (Nat.le_add_right _ _))) (g1.sd.mono (Nat.zero_le _) l2) k1 w1 (by omega)
    | pair x y =>
      obtain ⟨vx, vy, h, dx, dy⟩ := ka
      obtain ⟨m, rfl⟩ : ∃ m, n = m + 1 := ⟨n - 1, by have : max x.dep y.dep + 1 ≤ n := hdp; omega⟩
      have hdp' : max x.dep y.dep + 1 ≤ m + 1 := hdp
      have tt : VC (m + 1) = 5 * VC m + 5 := rfl
      have tm := VC_ge m
      have lm := VL_ge m
      obtain ⟨clx, cly⟩ := Bool.and_eq_true_iff.mp (show (x.closed && y.closed) = true from hcl)
      obtain ⟨nfx, nfy⟩ := Bool.and_eq_true_iff.mp (show (x.noFn && y.noFn) = true from hnf)
      refine ⟨_, rfl, a, _, 0, _, rfl, rfl, SqT.of h, rfl, rfl, _, rfl, ifF (no (by decide)) ?_⟩
      refine ⟨_, rfl, a, _, 0, _, rfl, rfl, SqT.of h, rfl, rfl, _, rfl, ifF (no (by decide)) ?_⟩
      refine ⟨_, rfl, a, _, 0, _, rfl, rfl, SqT.of h, rfl, rfl, _, rfl, ifT (decide_eq_true rfl) ?_⟩
      refine ⟨_, rfl, _, rfl, a, _, 1, _, rfl, rfl, SqT.of h, rfl, ?_⟩
      refine hR m rfl _ _ _ ⟨w, vx, x, c, rfl, dx, by omega, clx, nfx, hw, by omega, fun v1 d1 c1 H1 e1 i1 g1 k1 w1 l1 => ?_⟩
      refine ⟨_, rfl, _, rfl, _, rfl, a, _, 2, _, rfl, rfl, SqT.of (k1 a _ fa h), rfl, ?_⟩
      refine hR m rfl _ _ _ ⟨w, vy, y, c1, rfl, dy.kw k1, by omega, cly, nfy, w1, by omega, fun v2 d2 c2 H2 e2 i2 g2 k2 w2 l2' => ?_⟩
      refine ⟨big _ (by show (3 : Nat) ≤ 1000; decide), fun p np => ?_⟩
      have e1' := (k2.data hw.some e1).grow (Same.new (o := .tup [V.str "pair", v1, v2]) np)
      have e2' := (e2.move fun a o f e => ⟨k1.free w1.some f, e⟩ : Dt (New H) H2 v2 d2).grow (Same.new (o := .tup [V.str "pair", v1, v2]) np)
      refine q _ (.tuple [.str "pair", d1, d2]) c2 _ (.tup ((k1.trans k2).free w2.some np) upd_same (.cons (.str _) (.cons e1' (.cons e2' .nil)))) ?_ ?_ (k1.trans (k2.trans (Kw.new np))) (w2.same (Same.new np)) (by omega)
      · exact .pair i1 i2
      · refine sd_tup (n := m) (L := VL m) (m := 4) (fun z hz => ?_) (by show (3 : Nat) ≤ 4; decide)
        simp only [List.mem_cons, List.not_mem_nil, or_false] at hz
        rcases hz with rfl | rfl | rfl
        · exact (sdB_ok (n := 0) (L := 305) (by decide +kernel)).mono (Nat.zero_le _) lm
        · exact g1
        · exact g2
    | eith x y =>
      obtain ⟨vx, vy, h, dx, dy⟩ := ka
      obtain ⟨m, rfl⟩ : ∃ m, n = m + 1 := ⟨n - 1, by have : max x.dep y.dep + 1 ≤ n := hdp; omega⟩
      have hdp' : max x.dep y.dep + 1 ≤ m + 1 := hdp
      have tt : VC (m + 1) = 5 * VC m + 5 := rfl
      have tm := VC_ge m
      have lm := VL_ge m
      obtain ⟨clx, cly⟩ := Bool.and_eq_true_iff.mp (show (x.closed && y.closed) = true from hcl)
      obtain ⟨nfx, nfy⟩ := Bool.and_eq_true_iff.mp (show (x.noFn && y.noFn) = true from hnf)
      refine ⟨_, rfl, a, _, 0, _, rfl, rfl, SqT.of h, rfl, rfl, _, rfl, ifF (no (by decide)) ?_⟩
      refine ⟨_, rfl, a, _, 0, _, rfl, rfl, SqT.of h, rfl, rfl, _, rfl, ifF (no (by decide)) ?_⟩
      refine ⟨_, rfl, a, _, 0, _, rfl, rfl, SqT.of h, rfl, rfl, _, rfl, ifF (no (by decide)) ?_⟩
      refine ⟨_, rfl, a, _, 0, _, rfl, rfl, SqT.of h, rfl, rfl, _, rfl, ifT (decide_eq_true rfl) ?_⟩
      refine ⟨_, rfl, w, 2, c, rfl, hw, by omega, by decide, by decide, fun r c1 H1 r0 r1 k1 w1 l1 => ?_⟩
      have h1 := k1 a _ fa h
      refine ⟨big _ (by show (2 : Nat) ≤ 1000; decide), fun t nt => ?_⟩
      have sm := @Same.new t _ (.tup [.str "left", .str "right"]) nt
      have k2 := k1.trans (Kw.same sm)
      have fin : ∀ (wd : Str) (kd : Kd) (u : V), (∀ d, VV 4 kd d → VV 4 (.eith x y) (.tuple [.str wd, d])) → Sd m (VL m) (.str wd) → kd.dep ≤ m → kd.closed = true → kd.noFn = true → Dt (Nw w) H u kd.d →
          ∀ Q' : VK, (∀ v2 d2 c2 H2, Dt (New H) H2 v2 d2 → VV 4 kd d2 → Sd m (VL m) d2 → Kw w H H2 → Wl H2 w c2 → c2 ≤ c + 1 + VC m → Q' v2 H2) → spR [.ref w, u] (upd H1 t (.tup [.str "left", .str "right"])) Q' E0 := by
        intro wd kd u hv hg hd hc1 hn1 hu Q' hq
        refine hR m rfl _ _ _ ⟨w, u, kd, c1, rfl, hu.kw k2, hd, hc1, hn1, w1.same sm, by omega, fun v2 d2 c2 H2 e2 i2 g2 k3 w2 l2' => ?_⟩
        exact hq v2 d2 c2 H2 (e2.move fun a o f e => ⟨k2.free (w1.same sm).some f, e⟩) i2 g2 (k2.trans k3) w2 (by omega)
      have out : ∀ (wd : Str) (kd : Kd), (∀ d, VV 4 kd d → VV 4 (.eith x y) (.tuple [.str wd, d])) → Sd m (VL m) (.str wd) → ∀ (v2 : V) (d2 : PyData) (c2 : Int) (H2 : Hp), Dt (New H) H2 v2 d2 → VV 4 kd d2 → Sd m (VL m) d2 → Kw w H H2 → Wl H2 w c2 → c2 ≤ c + 1 + VC m →
          ∀ p, H2 p = none → Q (.ref p) (upd H2 p (.tup [.str wd, v2])) := by
        intro wd kd hv hg v2 d2 c2 H2 e2 i2 g2 k3 w2 l2' p np
        refine q _ (.tuple [.str wd, d2]) c2 _ (.tup (k3.free w2.some np) upd_same (.cons (.str _) (.cons (e2.grow (Same.new np)) .nil))) (hv _ i2) ?_ (k3.trans (Kw.new np)) (w2.same (Same.new np)) (by omega)
        refine sd_tup (n := m) (L := VL m) (m := 4) (fun z hz => ?_) (by show (2 : Nat) ≤ 4; decide)
        simp only [List.mem_cons, List.not_mem_nil, or_false] at hz
        rcases hz with rfl | rfl
        · exact hg
        · exact g2
      have gL : Sd m (VL m) (.str "left") := (sdB_ok (n := 0) (L := 305) (by decide +kernel)).mono (Nat.zero_le _) lm
      have gR' : Sd m (VL m) (.str "right") := (sdB_ok (n := 0) (L := 305) (by decide +kernel)).mono (Nat.zero_le _) lm
      have vL : ∀ d, VV 4 x d → VV 4 (.eith x y) (.tuple [.str "left", d]) := fun d hd => .left hd
      have vR : ∀ d, VV 4 y d → VV 4 (.eith x y) (.tuple [.str "right", d]) := fun d hd => .right hd
      have h2 := sm a _ h1
      obtain rfl | rfl : r = 0 ∨ r = 1 := by omega
      · refine ⟨_, rfl, t, _, 0, _, rfl, rfl, SqT.of upd_same, rfl, _, rfl, _, rfl, _, rfl, _, _, rfl, rfl, a, _, 1, _, rfl, rfl, SqT.of h2, rfl, ?_⟩
        exact fin "left" x vx vL gL (by omega) clx nfx dx _ fun v2 d2 c2 H2 e2 i2 g2 k3 w2 l2' => ⟨big _ (by show (2 : Nat) ≤ 1000; decide), out "left" x vL gL v2 d2 c2 H2 e2 i2 g2 k3 w2 l2'⟩
      · refine ⟨_, rfl, t, _, 1, _, rfl, rfl, SqT.of upd_same, rfl, _, rfl, _, rfl, _, rfl, _, _, rfl, rfl, a, _, 2, _, rfl, rfl, SqT.of h2, rfl, ?_⟩
        exact fin "right" y vy vR gR' (by omega) cly nfy dy _ fun v2 d2 c2 H2 e2 i2 g2 k3 w2 l2' => ⟨big _ (by show (2 : Nat) ≤ 1000; decide), out "right" y vR gR' v2 d2 c2 H2 e2 i2 g2 k3 w2 l2'⟩
    | lst x =>
      obtain ⟨vx, h, dx⟩ := ka
      obtain ⟨m, rfl⟩ : ∃ m, n = m + 1 := ⟨n - 1, by have : x.dep + 1 ≤ n := hdp; omega⟩
      have hdp' : x.dep + 1 ≤ m + 1 := hdp
      have tt : VC (m + 1) = 5 * VC m + 5 := rfl
      have tm := VC_ge m
      refine ⟨_, rfl, a, _, 0, _, rfl, rfl, SqT.of h, rfl, rfl, _, rfl, ifF (no (by decide)) ?_⟩
      refine ⟨_, rfl, a, _, 0, _, rfl, rfl, SqT.of h, rfl, rfl, _, rfl, ifF (no (by decide)) ?_⟩
      refine ⟨_, rfl, a, _, 0, _, rfl, rfl, SqT.of h, rfl, rfl, _, rfl, ifF (no (by decide)) ?_⟩
      refine ⟨_, rfl, a, _, 0, _, rfl, rfl, SqT.of h, rfl, rfl, _, rfl, ifF (no (by decide)) ?_⟩
      refine ⟨Nat.zero_le _, fun l nl => ?_⟩
      have sm := @Same.new l _ (.lst []) nl
      refine ⟨_, rfl, w, 5, c, rfl, hw.same sm, by omega, by decide, by decide, fun r c1 H1 r0 r1 k1 w1 l1 => ?_⟩
      have lw : l ≠ w := (hw.ne nl).symm
      have k01 := (Kw.same sm).trans k1
      refine ⟨r, rfl, by omega, by omega, for_range (lo := 0) (n := r.toNat) (fun i σ H3 => ∃ (vs : List V) (ds : List PyData) (t : Option V) (c3 : Int), σ = [some (.ref w), some (.ref a), none, none, some (.ref l), t] ∧
        Kw w H H3 ∧ H3 l = some (.lst vs) ∧ DtA (fun b => H b = none ∧ b ≠ l) H3 vs ds ∧ (∀ d ∈ ds, Sd m (VL m) d ∧ VV 4 x d) ∧ vs.length = i ∧ Wl H3 w c3 ∧ c3 ≤ c + 1 + i * VC m)
        ⟨[], [], none, c1, rfl, k01, k1 l _ lw upd_same, .nil, fun d hd => (by cases hd), rfl, w1, (by omega)⟩ ?_ ?_⟩
      · rintro i σ H3 hi ⟨vs, ds, t, c3, rfl, k3, h3, dt3, g3, len, w3, e3⟩
        have lim : c3 + VC m < 2 ^ 60 := by
          have : (i : Int) * VC m ≤ 4 * VC m := Int.mul_le_mul_of_nonneg_right (by omega) (by omega)
          omega
        refine ⟨_, rfl, .inl ⟨rfl, _, SqL.of h3⟩, _, rfl, _, rfl, a, _, 1, _, rfl, rfl, SqT.of (k3 a _ fa h), rfl, ?_⟩
        refine hR m rfl _ _ _ ⟨w, vx, x, c3, rfl, dx.kw k3, by omega, hcl, hnf, w3, lim, fun v d c4 H4 dv iv gv k4 w4 e4 => ?_⟩
        have h4 := k4 l _ lw h3
        have l0 : H l = none := nl
        refine ⟨l, vs, v, rfl, rfl, h4, small1000 (by omega), ?_⟩
        have k5 : ∀ a o, (H a = none ∧ a ≠ l) → H4 a = some o → (H a = none ∧ a ≠ l) ∧ upd H4 l (.lst (vs ++ [v])) a = some o := fun a o f e => ⟨f, by rw [upd_ne f.2]; exact e⟩
        have hw0 := hw.some
        have old : DtA (fun a => H a = none ∧ a ≠ l) H4 vs ds := dt3.move fun a o f e => ⟨f, k4 a o (fun z => hw0 (by rw [← z]; exact f.1)) e⟩
        have nw : Dt (fun a => H a = none ∧ a ≠ l) H4 v d := dv.move fun a o f e => ⟨⟨k3.free w3.some f, fun z => nomatch (show none = some (HO.lst vs) from (show H3 a = none from f).symm.trans (by rw [z]; exact h3))⟩, e⟩
        refine ⟨vs ++ [v], ds ++ [d], _, c4, rfl, ?_, upd_same, (old.append (.cons nw .nil)).move k5, ?_, by rw [List.length_append, len]; rfl, ?_, ?_⟩
        · exact fun a o n1 e => by
            have := k4 a o n1 (k3 a o n1 e)
            rw [upd_ne (ne_of_none e l0)]
            exact this
        · intro z hz
          rcases List.mem_append.mp hz with h | h
          · exact g3 z h
          · rw [List.mem_singleton.mp h]
            exact ⟨gv, iv⟩
        · obtain ⟨a1, a2, a3, a4, a5⟩ := w4
          exact ⟨a1, a2, a3, by rw [upd_ne lw.symm]; exact a4, a5⟩
        · have : ((i + 1 : Nat) : Int) * VC m = i * VC m + VC m := by
            rw [show ((i + 1 : Nat) : Int) = (i : Int) + 1 by omega, Int.add_mul, Int.one_mul]
          omega
      · rintro σ H3 ⟨vs, ds, t, c3, rfl, k3, h3, dt3, g3, len, w3, e3⟩
        have cnt : vs.length ≤ 4 := by omega
        refine ⟨_, rfl, l, vs, rfl, .inl ⟨SqL.of h3, fun p hp => ?_⟩⟩
        have hp0 : H p = none := k3.free w3.some hp
        have dl : ds.length ≤ 4 := by rw [← dt3.length]; exact cnt
        refine q (.ref p) (.tuple ds) c3 _ (.tup hp0 upd_same ((dt3.move fun a o f e => ⟨f.1, e⟩).grow (Same.new hp))) ?_ (sd_tup (fun z hz => (g3 z hz).1) dl) (k3.trans (Kw.new hp)) (w3.same (Same.new hp)) ?_
        · exact .lst dl fun z hz => (g3 z hz).2
        · have : (r.toNat : Int) * VC m ≤ 4 * VC m := Int.mul_le_mul_of_nonneg_right (by omega) (by omega)
          omega
theorem ok_val {f fD fN : Addr} {fd fdD fdN : FuncData} (F : FnP K "_law_value" (top 34) f fd) (T : Bl K mg)
    (FD : FnP K "_law_draw" (top 26) fD fdD) (gD : mg "_law_draw" = some (.ref fD)) (bD : Binds K fdD ["_law_well_here", "_law_many"] [])
    (FN : FnP K "_law_number" (top 31) fN fdN) (gN : mg "_law_number" = some (.ref fN)) (bN : Binds K fdN ["_law_well_here"] []) (GN : FnOk P w K mg base CX0 3 fN fdN ["_law_well_here"] spNum)
    (gR : mg "_law_value" = some (.ref f)) (bR : Binds K fd ["_law_well_here", "_law_kind_here"] []) : ∀ n : Nat, FnOk P w K mg base CX0 (3 + n + 1) f fd ["_law_well_here", "_law_kind_here"] (spVal n)
  | 0 => val_body 0 (spR := fun _ _ _ _ => False) F T FD gD bD FN gN bN GN gR bR ⟨fun _ _ _ _ h => h.elim, fun _ _ _ _ _ _ _ _ _ _ _ _ _ h => h.elim⟩ fun m e => by cases e
  | n + 1 => val_body (n + 1) F T FD gD bD FN gN bN GN gR bR (ok_val F T FD gD bD FN gN bN GN gR bR n) fun m e => by cases e; exact fun _ _ _ h => h
end
end K3
namespace KB
open PySem L2 PySem.Spec PyProof.Rows
/-! ### tuples of data: parts, slices, sums -/
section
variable {F : Addr → Prop} {H H' : Hp} {K : PySem.W.Frag}
theorem Dt.keep {v : V} {d : PyData} (h : Dt F H v d) (k : Same H H') : Dt F H' v d := h.move fun a o f e => ⟨f, k a o e⟩
theorem DtA.keep {v : List V} {d : List PyData} (h : DtA F H v d) (k : Same H H') : DtA F H' v d := h.move fun a o f e => ⟨f, k a o e⟩
theorem DtA.take : ∀ {vs : List V} {ds : List PyData} (n : Nat), DtA F H vs ds → DtA F H (vs.take n) (ds.take n)
  | _, _, 0, _ => by
    rw [List.take_zero, List.take_zero]
    exact .nil
  | _, _, n + 1, .nil => .nil
  | _, _, n + 1, .cons h r => .cons h (r.take n)
theorem DtA.drop : ∀ {vs : List V} {ds : List PyData} (n : Nat), DtA F H vs ds → DtA F H (vs.drop n) (ds.drop n)
  | _, _, 0, h => h
  | _, _, n + 1, .nil => .nil
  | _, _, n + 1, .cons h r => r.drop n
theorem DtA.at_ : ∀ {vs : List V} {ds : List PyData} {i : Nat} {d : PyData}, DtA F H vs ds → ds[i]? = some d → ∃ v, vs[i]? = some v ∧ Dt F H v d
  | _, _, 0, _, .cons h _, e => ⟨_, rfl, by cases e; exact h⟩
  | _, _, i + 1, _, .cons _ r, e => r.at_ (i := i) e
/-- t[i] -/
theorem ixD {v : V} {ds : List PyData} {i : Nat} {d : PyData} {Q : VK} (h : Dt F H v (.tuple ds)) (e : ds[i]? = some d) (q : ∀ x, Dt F H x d → Q x H) : rIxT K v (.int (i : Int)) H Q := by
  obtain ⟨a, xs, rfl, f, ha, r⟩ := h.tupI
  obtain ⟨x, hx, dx⟩ := r.at_ e
  exact ⟨a, xs, _, x, rfl, rfl, SqT.of ha, atI_nat hx, q x dx⟩
theorem ixD0 {v : V} {ds : List PyData} {d : PyData} {Q : VK} (h : Dt F H v (.tuple (d :: ds))) (q : ∀ x, Dt F H x d → Q x H) : rIxT K v (.int 0) H Q := ixD (i := 0) h rfl q
/-- t + u -/
theorem catD {x y : V} {ds es : List PyData} {Q : VK} (hF : ∀ p, H p = none → F p) (hx : Dt F H x (.tuple ds)) (hy : Dt F H y (.tuple es)) (hz : ds.length + es.length ≤ 16000000) (q : ∀ v H', Same H H' → Dt F H' v (.tuple (ds ++ es)) → Q v H') : rCatA K x y H Q := by
  obtain ⟨a, xs, rfl, f, ha, r⟩ := hx.tupI
  obtain ⟨b, ys, rfl, f2, hb, r2⟩ := hy.tupI
  have l1 := r.length
  have l2 := r2.length
  refine ⟨a, b, xs, ys, rfl, rfl, SqT.of ha, SqT.of hb, Nat.le_trans (by omega : xs.length + ys.length ≤ 16000000) (by decide), fun e => ?_, fun _ e => ?_, fun _ _ p np => ?_⟩
  · subst e
    cases r
    exact q _ H (Same.refl H) (.tup f2 hb r2)
  · subst e
    cases r2
    rw [List.append_nil] at q
    exact q _ H (Same.refl H) (.tup f ha r)
  · exact q _ _ (Same.new np) (.tup (hF p np) upd_same ((r.append r2).keep (Same.new np)))
/-- t[:i] -/
theorem takeD {x : V} {ds : List PyData} {i : Nat} {Q : VK} (hF : ∀ p, H p = none → F p) (hx : Dt F H x (.tuple ds)) (hi : i ≤ ds.length) (q : ∀ v H', Same H H' → Dt F H' v (.tuple (ds.take i)) → Q v H') : rSlA K x none (some (i : Int)) H Q := by
  obtain ⟨a, xs, rfl, f, ha, r⟩ := hx.tupI
  have l := r.length
  refine ⟨a, xs, rfl, SqT.of ha, fun e => ?_, fun _ p np => ?_⟩
  · rw [HT.sIx_nat] at e
    have : ds.take i = ds := List.take_of_length_le (by omega)
    rw [this] at q
    exact q _ H (Same.refl H) hx
  · refine q _ _ (Same.new np) (.tup (hF p np) upd_same ?_)
    have : cutV xs none (some (i : Int)) = xs.take i := by
      unfold cutV
      rw [HT.sIx_nat, HT.sIx_none, List.drop_zero, Nat.sub_zero, Nat.min_eq_left (by omega)]
    rw [this]
    exact (r.take i).keep (Same.new np)
/-- t[i:] -/
theorem dropD {x : V} {ds : List PyData} {i : Nat} {Q : VK} (hF : ∀ p, H p = none → F p) (hx : Dt F H x (.tuple ds)) (q : ∀ v H', Same H H' → Dt F H' v (.tuple (ds.drop i)) → Q v H') : rSlA K x (some (i : Int)) none H Q := by
  obtain ⟨a, xs, rfl, f, ha, r⟩ := hx.tupI
  have l := r.length
  refine ⟨a, xs, rfl, SqT.of ha, fun e => ?_, fun _ p np => ?_⟩
  · rw [HT.sIx_nat] at e
    by_cases hi : i = 0
    · subst hi
      exact q _ H (Same.refl H) hx
    · have z : xs = [] := List.eq_nil_of_length_eq_zero (by omega)
      subst z
      cases r
      rw [show ([] : List PyData).drop i = [] from List.drop_nil] at q
      exact q _ H (Same.refl H) hx
  · refine q _ _ (Same.new np) (.tup (hF p np) upd_same ?_)
    have : cutV xs (some (i : Int)) none = xs.drop i := by
      unfold cutV
      rw [HT.sIx_nat, HT.sIx_none]
      by_cases hi : i ≤ xs.length
      · rw [Nat.min_eq_left hi]
        exact List.take_of_length_le (by rw [List.length_drop]; exact Nat.le_refl _)
      · rw [Nat.min_eq_right (by omega), List.drop_of_length_le (Nat.le_refl _), List.drop_of_length_le (by omega), List.take_nil]
    rw [this]
    exact (r.drop i).keep (Same.new np)
/-- (..) laid -/
theorem layD {p : Addr} {vs : List V} {ds : List PyData} (hF : ∀ p, H p = none → F p) (np : H p = none) (r : DtA F H vs ds) : Dt F (upd H p (.tup vs)) (.ref p) (.tuple ds) := .tup (hF p np) upd_same (r.keep (Same.new np))
theorem lenD {v : V} {ds : List PyData} (h : Dt F H v (.tuple ds)) : ∃ a xs, v = .ref a ∧ SqT K H a xs ∧ xs.length = ds.length := by
  obtain ⟨a, xs, rfl, f, ha, r⟩ := h.tupI
  exact ⟨a, xs, rfl, SqT.of ha, r.length⟩
end
theorem nwF {w : Addr} {H : Hp} {c : Int} (hw : Wl H w c) : ∀ p, H p = none → Nw w p := fun p np z => hw.some (by rw [← z]; exact np)
end KB
namespace KB
open PySem L2 PySem.Spec PyProof.Rows
section
variable {K : PySem.W.Frag} {w : Addr} {σ : L2.St} {H : Hp} {c C : Int} {tc : TE} {ds : List PyData} {i u j : Nat} {vv : V} {P : PyData → Prop} {Q : VK}
theorem slL (hw : Wl H w c) (su : σ[u]? = some (some vv)) (sj : σ[j]? = some (some (V.int (i : Int)))) (hv : Dt (Nw w) H vv (.tuple ds)) (hi : i ≤ ds.length) {Q : VK} (q : ∀ v H', Same H H' → Dt (Nw w) H' v (.tuple (ds.take i)) → Q v H') :
    tSl (rSlA K) (tVar u) tNoPart (tPart (tVar j)) σ H Q := ⟨_, su, _, sj, _, rfl, takeD (nwF hw) hv hi q⟩
theorem slR (hw : Wl H w c) (su : σ[u]? = some (some vv)) (sj : σ[j]? = some (some (V.int (i : Int)))) (hv : Dt (Nw w) H vv (.tuple ds)) {Q : VK} (q : ∀ v H', Same H H' → Dt (Nw w) H' v (.tuple (ds.drop i)) → Q v H') :
    tSl (rSlA K) (tVar u) (tPart (tVar j)) tNoPart σ H Q := ⟨_, su, _, sj, _, rfl, dropD (nwF hw) hv q⟩
theorem slR1 (hw : Wl H w c) (su : σ[u]? = some (some vv)) (sj : σ[j]? = some (some (V.int (i : Int)))) (hv : Dt (Nw w) H vv (.tuple ds)) {Q : VK} (q : ∀ v H', Same H H' → Dt (Nw w) H' v (.tuple (ds.drop (i + 1))) → Q v H') :
    tSl (rSlA K) (tVar u) (tPart (tOp (rI0 fun i j => V.int (i + j)) (tVar j) (tC (V.int 1)))) tNoPart σ H Q := ⟨_, su, _, sj, _, _, rfl, rfl, _, rfl, dropD (i := i + 1) (nwF hw) hv q⟩
/-- a call in the middle: its answer, the well's count -/
def Mid (w : Addr) (σ : L2.St) (H : Hp) (tc : TE) (P : PyData → Prop) (C : Int) : Prop := ∀ H1 : Hp, Same H H1 → ∀ Q' : VK, (∀ x e c' H2, Dt (Nw w) H2 x e → P e → Kw w H1 H2 → Wl H2 w c' → c' ≤ C → Q' x H2) → tc σ H1 Q'
theorem cat3 {tr : TE} {r : List PyData} (hw : Wl H w c) (su : σ[u]? = some (some vv)) (sj : σ[j]? = some (some (V.int (i : Int)))) (hv : Dt (Nw w) H vv (.tuple ds)) (hi : i ≤ ds.length) (hz : ds.length ≤ 4000000) (hr : r.length ≤ ds.length) (hc : Mid w σ H tc P C)
    (ht : ∀ (H1 : Hp) (c1 : Int), Wl H1 w c1 → Dt (Nw w) H1 vv (.tuple ds) → ∀ Q' : VK, (∀ v H2, Same H1 H2 → Dt (Nw w) H2 v (.tuple r) → Q' v H2) → tr σ H1 Q')
    (q : ∀ v e c' H', P e → Dt (Nw w) H' v (.tuple (ds.take i ++ [e] ++ r)) → Kw w H H' → Wl H' w c' → c' ≤ C → Q v H') :
    tOp (rCatA K) (tOp (rCatA K) (tSl (rSlA K) (tVar u) tNoPart (tPart (tVar j))) (tTup (tCons tc tNil))) tr σ H Q := by
  have l1 : (ds.take i).length ≤ ds.length := by rw [List.length_take]; omega
  refine slL hw su sj hv hi fun v1 H1 s1 e1 => ?_
  refine hc H1 s1 _ fun x e c' H2 dx pe k2 w2 hc' => ⟨Nat.le_of_lt (small1000 (by show (1 : Nat) ≤ 1000; decide)), fun p np => ?_⟩
  have s3 := @Same.new p _ (.tup [x]) np
  have dp : Dt (Nw w) _ (.ref p) (.tuple [e]) := layD (nwF w2) np (.cons dx .nil)
  have w3 := w2.same s3
  refine catD (nwF w3) ((e1.kw k2).keep s3) dp (by show _ + 1 ≤ _; omega) fun v4 H4 s4 e4 => ?_
  have w4 := w3.same s4
  refine ht H4 c' w4 ((((hv.keep s1).kw k2).keep s3).keep s4) _ fun v5 H5 s5 e5 => ?_
  have w5 := w4.same s5
  refine catD (nwF w5) (e4.keep s5) e5 (by rw [List.length_append]; show _ + 1 + _ ≤ _; omega) fun v6 H6 s6 e6 => ?_
  exact q v6 e c' H6 pe e6 ((Kw.same s1).trans (k2.trans (Kw.same (s3.trans (s4.trans (s5.trans s6)))))) (w5.same s6) hc'
/-- t[:i] + (call,) + t[i + 1:] -/
theorem rep_at (hw : Wl H w c) (su : σ[u]? = some (some vv)) (sj : σ[j]? = some (some (V.int (i : Int)))) (hv : Dt (Nw w) H vv (.tuple ds)) (hi : i ≤ ds.length) (hz : ds.length ≤ 4000000) (hc : Mid w σ H tc P C)
    (q : ∀ v e c' H', P e → Dt (Nw w) H' v (.tuple (ds.take i ++ [e] ++ ds.drop (i + 1))) → Kw w H H' → Wl H' w c' → c' ≤ C → Q v H') :
    tOp (rCatA K) (tOp (rCatA K) (tSl (rSlA K) (tVar u) tNoPart (tPart (tVar j))) (tTup (tCons tc tNil))) (tSl (rSlA K) (tVar u) (tPart (tOp (rI0 fun i j => V.int (i + j)) (tVar j) (tC (V.int 1)))) tNoPart) σ H Q :=
  cat3 hw su sj hv hi hz (by rw [List.length_drop]; omega) hc (fun H1 c1 w1 e1 Q' q' => slR1 w1 su sj e1 q') q
/-- t[:i] + (call,) + t[i:] -/
theorem ins_at (hw : Wl H w c) (su : σ[u]? = some (some vv)) (sj : σ[j]? = some (some (V.int (i : Int)))) (hv : Dt (Nw w) H vv (.tuple ds)) (hi : i ≤ ds.length) (hz : ds.length ≤ 4000000) (hc : Mid w σ H tc P C)
    (q : ∀ v e c' H', P e → Dt (Nw w) H' v (.tuple (ds.take i ++ [e] ++ ds.drop i)) → Kw w H H' → Wl H' w c' → c' ≤ C → Q v H') :
    tOp (rCatA K) (tOp (rCatA K) (tSl (rSlA K) (tVar u) tNoPart (tPart (tVar j))) (tTup (tCons tc tNil))) (tSl (rSlA K) (tVar u) (tPart (tVar j)) tNoPart) σ H Q :=
  cat3 hw su sj hv hi hz (by rw [List.length_drop]; omega) hc (fun H1 c1 w1 e1 Q' q' => slR w1 su sj e1 q') q
/-- t[:i] + t[i + 1:] -/
theorem del_at (hw : Wl H w c) (su : σ[u]? = some (some vv)) (sj : σ[j]? = some (some (V.int (i : Int)))) (hv : Dt (Nw w) H vv (.tuple ds)) (hi : i ≤ ds.length) (hz : ds.length ≤ 4000000)
    (q : ∀ v H', Dt (Nw w) H' v (.tuple (ds.take i ++ ds.drop (i + 1))) → Same H H' → Q v H') :
    tOp (rCatA K) (tSl (rSlA K) (tVar u) tNoPart (tPart (tVar j))) (tSl (rSlA K) (tVar u) (tPart (tOp (rI0 fun i j => V.int (i + j)) (tVar j) (tC (V.int 1)))) tNoPart) σ H Q := by
  have l1 : (ds.take i).length ≤ ds.length := by rw [List.length_take]; omega
  have l2 : (ds.drop (i + 1)).length ≤ ds.length := by rw [List.length_drop]; omega
  refine slL hw su sj hv hi fun v1 H1 s1 e1 => ?_
  have w1 := hw.same s1
  refine slR1 w1 su sj (hv.keep s1) fun v2 H2 s2 e2 => ?_
  have w2 := w1.same s2
  exact catD (nwF w2) (e1.keep s2) e2 (by omega) fun v3 H3 s3 e3 => q v3 H3 e3 (s1.trans (s2.trans s3))
end
end KB
namespace KB
open PySem L2 PySem.Spec PyProof.Rows
/-! ### isinstance of data; == () -/
def isInt : PyData → Bool
  | .int _ => true
  | .bool _ => true
  | _ => false
def isBool : PyData → Bool
  | .bool _ => true
  | _ => false
def isTup : PyData → Bool
  | .tuple _ => true
  | _ => false
def isStr : PyData → Bool
  | .str _ => true
  | _ => false
section
variable {F : Addr → Prop} {H : Hp} {K : PySem.W.Frag} {v : V} {d : PyData} {Q : VK}
theorem tyD (h : Dt F H v d) : ∃ t, TyX K H v t ∧ PySem.W.kitOne K t (.type "int") = some (isInt d) ∧ PySem.W.kitOne K t (.type "bool") = some (isBool d) ∧ PySem.W.kitOne K t (.type "tuple") = some (isTup d) ∧ PySem.W.kitOne K t (.type "str") = some (isStr d) := by
  cases h with
  | non => exact ⟨_, .base .non, rfl, rfl, rfl, rfl⟩
  | bl b => exact ⟨_, .base (.bl b), rfl, rfl, rfl, rfl⟩
  | int i => exact ⟨_, .base (.int i), rfl, rfl, rfl, rfl⟩
  | str x => exact ⟨_, .base (.str x), rfl, rfl, rfl, rfl⟩
  | lst f h r => exact ⟨_, .base (.lst h), rfl, rfl, rfl, rfl⟩
  | tup f h r => exact ⟨_, .base (.tup h), rfl, rfl, rfl, rfl⟩
  | emp f h => exact ⟨_, .base (.dK h), rfl, rfl, rfl, rfl⟩
end
/-- t == () -/
def rEqE (K : PySem.W.Frag) : R2 := fun x y H Q => ∃ (a e : Addr) (xs : List V), x = .ref a ∧ y = .ref e ∧ SqT K H a xs ∧ SqT K H e [] ∧ Q (.bl (decide (xs.length = 0))) H
theorem op_eqE {X : Cx} (hu : X.A.units < cLine) : OpR X (compareOp .Eq) (rEqE X.K) := by
  intro pins s σ H x y v u Q I rx ry h; obtain ⟨a, e, xs, rfl, rfl, ha, he, q⟩ := h
  cases (show v = Value.ref a from rx); cases (show u = Value.ref e from ry)
  obtain ⟨its, r1, p1, _⟩ := I.tuple ha; obtain ⟨its2, r2, p2, _⟩ := I.tuple he
  cases r2
  have l1 := r1.length
  refine SeqAt.eq_tupleAt (e := fun _ => true) p1 p2 hu (fun j _ h2 => absurd h2 (Nat.not_lt_zero j)) ⟨.bl (decide (xs.length = 0)), H, I, ?_, q⟩
  have : ((List.range (min its.toArray.size ([] : List Value).toArray.size)).all (fun _ => true) && its.toArray.size == ([] : List Value).toArray.size) = decide (xs.length = 0) := by
    rw [l1]
    show ((List.range (min its.length 0)).all (fun _ => true) && its.length == 0) = decide (its.length = 0)
    rw [Nat.min_zero]
    show (true && its.length == 0) = _
    rw [Bool.true_and]
    rfl
  rw [this]
  rfl
end KB
namespace KB
open PySem L2 PySem.Spec PyProof.Rows
def NC : Nat → Int
  | 0 => 3
  | n + 1 => NC n + VC n + 3
theorem NC_ge : ∀ n, 3 ≤ NC n
  | 0 => Int.le_refl _
  | n + 1 => by
    have := NC_ge n
    have := VC_ge n
    unfold NC
    omega
/-- near(well, kind, value) -/
def spNear (n : Nat) : Sp := fun vs H Q _ => ∃ (w : Addr) (kv vv : V) (k : Kd) (d : PyData) (N : Nat) (c : Int), vs = [.ref w, kv, vv] ∧ Dt (Nw w) H kv k.d ∧ Dt (Nw w) H vv d ∧ VV N k d ∧ N ≤ 1000 ∧ 4 ≤ N ∧ k.dep ≤ n ∧ k.closed = true ∧ k.noFn = true ∧ Wl H w c ∧ c + NC n < 2 ^ 60 ∧
  ∀ (v : V) (e : PyData) (c' : Int) (H' : Hp), Dt (Nw w) H' v e → VV (N + 1) k e → Kw w H H' → Wl H' w c' → c' ≤ c + NC n → Q v H'
end KB
namespace K3
open PySem PySem.Spec PyProof.Rows L2 KB
section
variable {K : PySem.W.Frag} {mg : Str → Option Value} {base : Heap} {P : Program} {w : World}
abbrev nNear : List Str := ["_law_well_here", "_law_kind_here", "_law_value_here", "_law_at", "_law_side", "_law_way"]
theorem scNear : FnScope nNear ["_law_well_here", "_law_kind_here", "_law_value_here"] (defScope (top 35)) := ⟨rfl, rfl, rfl, by decide +kernel, rfl, by decide +kernel, by decide +kernel⟩
theorem near_body (n : Nat) {f fD fP fV : Addr} {fd fdD fdP fdV : FuncData} {spR : Sp} (F : FnP K "_law_near" (top 35) f fd) (T : Bl K mg)
    (FD : FnP K "_law_draw" (top 26) fD fdD) (gD : mg "_law_draw" = some (.ref fD)) (bD : Binds K fdD ["_law_well_here", "_law_many"] [])
    (FP : FnP K "_law_pick" (top 27) fP fdP) (gP : mg "_law_pick" = some (.ref fP)) (bP : Binds K fdP ["_law_well_here", "_law_some"] [])
    (FV : FnP K "_law_value" (top 34) fV fdV) (gV : mg "_law_value" = some (.ref fV)) (bV : Binds K fdV ["_law_well_here", "_law_kind_here"] []) (GVal : ∀ n : Nat, FnOk P w K mg base CX0 (3 + n + 1) fV fdV ["_law_well_here", "_law_kind_here"] (spVal n))
    (gR : mg "_law_near" = some (.ref f)) (bR : Binds K fd ["_law_well_here", "_law_kind_here", "_law_value_here"] []) (GR : FnOk P w K mg base CX0 (4 + n) f fd ["_law_well_here", "_law_kind_here", "_law_value_here"] spR)
    (hR : ∀ m, n = m + 1 → ∀ vs H Q, spNear m vs H Q E0 → spR vs H Q E0) : FnOk P w K mg base CX0 (4 + n + 1) f fd ["_law_well_here", "_law_kind_here", "_law_value_here"] (spNear n) := by
  have GD : FnOk P w K mg base CX0 1 fD fdD ["_law_well_here", "_law_many"] spDraw := ok_draw FD T
  have GP : FnOk P w K mg base CX0 2 fP fdP ["_law_well_here", "_law_some"] (spPick K) := ok_pick FP T FD gD bD
  have GV := GVal (n - 1)
  refine F.ok scNear (fun vs H Q E h => ?_) (fun cdv A outer s H vs Q E hr h => ?_)
  · obtain ⟨w, kv, vv, k, d, N, c, rfl, _⟩ := h
    rfl
  · obtain ⟨w, kv, vv, k, d, N, c, rfl, hk, hv, hV, hN, hN4, hdp, hcl, hnf, hw, hc, q⟩ := h
    have sc := scNear
    have hrD : Room 1 _ := hr.mono (by omega)
    have hrP : Room 2 _ := hr.mono (by omega)
    have hrV : Room (3 + (n - 1) + 1) _ := hr.mono (by omega)
    have hrR : Room (4 + n) _ := hr
    have t2 := NC_ge n
    refine ⟨_, PSs.nox (pss_cons (ps_if (pt_cmpR op_eq (pe_ix ix_tup (pv 1) pe_int (fun _ _ => rfl)) pe_str (nomark _)) (pss_one (ps_ret (pv 2))) pss_nil) (pss_cons (ps_if (pt_cmpR op_eq (pe_ix ix_tup (pv 1) pe_int (fun _ _ => rfl)) pe_str (nomark _)) (pss_one (ps_ret (pe_op op_add (pv 2) (pe_call GP hrP rfl gP FP.kp bP .nil pass0 (pa_cons (pv 0) (pa_cons (pe_tup (pa_cons pe_int (pa_cons pe_int (pa_cons (pe_un un_neg pe_int) (pa_cons pe_int (pa_cons (pe_un un_neg pe_int) (pa_cons pe_int (pa_cons (pe_op op_mul (pe_un un_neg pe_int) (pv 2)) pa_nil)))))))) pa_nil)))))) pss_nil) (pss_cons (ps_if (pt_cmpR op_eq (pe_ix ix_tup (pv 1) pe_int (fun _ _ => rfl)) pe_str (nomark _)) (pss_cons (ps_set (i := 3) sc.nd rfl (Or.inl rfl) (pe_op op_add pe_int (pe_call GD hrD rfl gD FD.kp bD .nil pass0 (pa_cons (pv 0) (pa_cons pe_int pa_nil))))) (pss_one (ps_ret (pe_op op_catA (pe_op op_catA (pe_slice sl_tupA (pv 2) po_none (po_some (pv 3))) (pe_tup (pa_cons (pe_call GR hrR rfl gR F.kp bR .nil pass0 (pa_cons (pv 0) (pa_cons (pe_ix ix_tup (pv 1) (pv 3) (fun _ _ => rfl)) (pa_cons (pe_ix ix_tup (pv 2) (pv 3) (fun _ _ => rfl)) pa_nil)))) pa_nil))) (pe_slice sl_tupA (pv 2) (po_some (pe_op op_add (pv 3) pe_int)) po_none))))) pss_nil) (pss_cons (ps_if (pt_cmpR op_eq (pe_ix ix_tup (pv 1) pe_int (fun _ _ => rfl)) pe_str (nomark _)) (pss_cons (ps_set (i := 4) sc.nd rfl (Or.inl rfl) (pe_ifExp (pt_cmpR op_eq (pe_ix ix_tup (pv 2) pe_int (fun _ _ => rfl)) pe_str (nomark _)) pe_int pe_int)) (pss_cons (ps_if (pt_cmpR op_eq (pe_call GD hrD rfl gD FD.kp bD .nil pass0 (pa_cons (pv 0) (pa_cons pe_int pa_nil))) pe_int (nomark _)) (pss_one (ps_ret (pe_tup (pa_cons (pe_ix ix_tup (pe_tup (pa_cons pe_str (pa_cons pe_str pa_nil))) (pe_op op_sub (pv 4) pe_int) (fun _ _ => rfl)) (pa_cons (pe_call GV hrV rfl gV FV.kp bV .nil pass0 (pa_cons (pv 0) (pa_cons (pe_ix ix_tup (pv 1) (pe_op op_sub pe_int (pv 4)) (fun _ _ => rfl)) pa_nil))) pa_nil))))) pss_nil) (pss_one (ps_ret (pe_tup (pa_cons (pe_ix ix_tup (pv 2) pe_int (fun _ _ => rfl)) (pa_cons (pe_call GR hrR rfl gR F.kp bR .nil pass0 (pa_cons (pv 0) (pa_cons (pe_ix ix_tup (pv 1) (pv 4) (fun _ _ => rfl)) (pa_cons (pe_ix ix_tup (pv 2) pe_int (fun _ _ => rfl)) pa_nil)))) pa_nil))))))) pss_nil) (pss_cons (ps_par (i := 3) (j := 5) (by rfl) sc.nd rfl rfl (by decide) rfl rfl (pa_cons (pe_call GD hrD rfl gD FD.kp bD .nil pass0 (pa_cons (pv 0) (pa_cons (pe_op op_add (pe_callB call_len (by rfl) T.len (by decide +kernel) (pa_cons (pv 2) pa_nil)) pe_int) pa_nil))) (pa_cons (pe_call GD hrD rfl gD FD.kp bD .nil pass0 (pa_cons (pv 0) (pa_cons pe_int pa_nil))) pa_nil)) (by rfl)) (pss_cons (ps_if (pt_cmpR op_eq (pv 5) pe_int (nomark _)) (pss_one (ps_ret (pe_slice sl_tupA (pv 2) po_none (po_some (pv 3))))) pss_nil) (pss_cons (ps_if (PW.pt (pw_or (pt_cmpR op_eq (pv 5) pe_int (nomark _)) (pw_or1 (pt_cmpR op_eq (pv 3) (pe_callB call_len (by rfl) T.len (by decide +kernel) (pa_cons (pv 2) pa_nil)) (nomark _))))) (pss_one (ps_ret (pe_op op_catA (pe_op op_catA (pe_slice sl_tupA (pv 2) po_none (po_some (pv 3))) (pe_tup (pa_cons (pe_call GV hrV rfl gV FV.kp bV .nil pass0 (pa_cons (pv 0) (pa_cons (pe_ix ix_tup (pv 1) pe_int (fun _ _ => rfl)) pa_nil))) pa_nil))) (pe_slice sl_tupA (pv 2) (po_some (pv 3)) po_none)))) pss_nil) (pss_cons (ps_if (pt_cmpR op_eq (pv 5) pe_int (nomark _)) (pss_one (ps_ret (pe_op op_catA (pe_slice sl_tupA (pv 2) po_none (po_some (pv 3))) (pe_slice sl_tupA (pv 2) (po_some (pe_op op_add (pv 3) pe_int)) po_none)))) pss_nil) (pss_one (ps_ret (pe_op op_catA (pe_op op_catA (pe_slice sl_tupA (pv 2) po_none (po_some (pv 3))) (pe_tup (pa_cons (pe_call GR hrR rfl gR F.kp bR .nil pass0 (pa_cons (pv 0) (pa_cons (pe_ix ix_tup (pv 1) pe_int (fun _ _ => rfl)) (pa_cons (pe_ix ix_tup (pv 2) (pv 3) (fun _ _ => rfl)) pa_nil)))) pa_nil))) (pe_slice sl_tupA (pv 2) (po_some (pe_op op_add (pv 3) pe_int)) po_none)))))))))))), ?_⟩
    have big : ∀ k : Nat, k ≤ 1000 → k ≤ sizeLine := fun k h => Nat.le_of_lt (small1000 h)
    obtain ⟨a, rfl, fa, ka⟩ := kd_at hk
    have no : ∀ {x y : Str}, x ≠ y → decide (V.str x = V.str y) = false := fun h => decide_eq_false fun z => h (V.str.inj z)
    cases hV with
    | unit =>
      exact ⟨_, rfl, a, _, 0, _, rfl, rfl, SqT.of ka, rfl, rfl, _, rfl, ifT (decide_eq_true rfl) ⟨_, rfl, q vv (.tuple []) c H hv .unit (Kw.refl w H) hw (by omega)⟩⟩
    | num i bi =>
      refine ⟨_, rfl, a, _, 0, _, rfl, rfl, SqT.of ka, rfl, rfl, _, rfl, ifF (no (by decide)) ?_⟩
      refine ⟨_, rfl, a, _, 0, _, rfl, rfl, SqT.of ka, rfl, rfl, _, rfl, ifT (decide_eq_true rfl) ?_⟩
      have ev := hv.intI
      subst ev
      refine ⟨_, rfl, _, rfl, _, rfl, _, rfl, _, rfl, _, rfl, _, _, rfl, rfl, .inl ⟨by decide, by decide⟩, big _ (by show (7 : Nat) ≤ 1000; decide), fun t nt => ?_⟩
      have sm := @Same.new t _ (.tup [.int 0, .int 1, .int (-1), .int 1, .int (-1), .int 10, .int (-2 * i)]) nt
      refine ⟨w, t, _, c, rfl, hw.same sm, by omega, SqT.of upd_same, (by show 0 < (7 : Nat); decide), (by show (7 : Nat) ≤ 1000; decide), fun j v c2 H2 hi k2 w2 e2 => ?_⟩
      obtain ⟨x, rfl, hx⟩ : ∃ x : Int, v = V.int x ∧ (x.natAbs ≤ 10 ∨ x = -2 * i) := by
        match j, hi with
        | 0, hi => exact ⟨_, (Option.some.inj hi).symm, .inl (by decide)⟩
        | 1, hi => exact ⟨_, (Option.some.inj hi).symm, .inl (by decide)⟩
        | 2, hi => exact ⟨_, (Option.some.inj hi).symm, .inl (by decide)⟩
        | 3, hi => exact ⟨_, (Option.some.inj hi).symm, .inl (by decide)⟩
        | 4, hi => exact ⟨_, (Option.some.inj hi).symm, .inl (by decide)⟩
        | 5, hi => exact ⟨_, (Option.some.inj hi).symm, .inl (by decide)⟩
        | 6, hi => exact ⟨_, (Option.some.inj hi).symm, .inr rfl⟩
      exact ⟨_, _, rfl, rfl, q _ _ c2 _ (.int _) (.num _ (by omega)) ((Kw.same sm).trans k2) w2 (by omega)⟩
    | @pair ka' kb' x y hx hy =>
      obtain ⟨vx, vy, h, dx, dy⟩ := ka
      obtain ⟨m, rfl⟩ : ∃ m, n = m + 1 := ⟨n - 1, by have : max ka'.dep kb'.dep + 1 ≤ n := hdp; omega⟩
      have hdp' : max ka'.dep kb'.dep + 1 ≤ m + 1 := hdp
      have tt : NC (m + 1) = NC m + VC m + 3 := rfl
      have tm := NC_ge m
      have tv := VC_ge m
      obtain ⟨clx, cly⟩ := Bool.and_eq_true_iff.mp (show (ka'.closed && kb'.closed) = true from hcl)
      obtain ⟨nfx, nfy⟩ := Bool.and_eq_true_iff.mp (show (ka'.noFn && kb'.noFn) = true from hnf)
      refine ⟨_, rfl, a, _, 0, _, rfl, rfl, SqT.of h, rfl, rfl, _, rfl, ifF (no (by decide)) ?_⟩
      refine ⟨_, rfl, a, _, 0, _, rfl, rfl, SqT.of h, rfl, rfl, _, rfl, ifF (no (by decide)) ?_⟩
      refine ⟨_, rfl, a, _, 0, _, rfl, rfl, SqT.of h, rfl, rfl, _, rfl, ifT (decide_eq_true rfl) ?_⟩
      refine ⟨_, rfl, w, 2, c, rfl, hw, by omega, by decide, by decide, fun r c1 H1 r0 r1 k1 w1 l1 => ⟨_, _, rfl, rfl, ?_⟩⟩
      have hk1 : Dt (Nw w) H1 (.ref a) (.tuple [.str "pair", ka'.d, kb'.d]) := hk.kw k1
      have hv1 : Dt (Nw w) H1 vv (.tuple [.str "pair", x, y]) := hv.kw k1
      obtain rfl | rfl : r = 0 ∨ r = 1 := by omega
      · refine rep_at (i := 1) (P := VV (N + 1) ka') (C := c1 + NC m) w1 rfl rfl hv1 (by show (1 : Nat) ≤ 3; decide) (by show (3 : Nat) ≤ 4000000; decide) (fun H2 s2 Q' q' => ?_) fun v e c' H' pe dv k2 w2 l2 => q v _ c' H' dv (.pair pe (hy.mono (Nat.le_succ _))) (k1.trans k2) w2 (by omega)
        refine ⟨_, rfl, _, rfl, _, rfl, ixD (i := 1) (hk1.keep s2) rfl fun u du => ⟨_, rfl, _, rfl, ixD (i := 1) (hv1.keep s2) rfl fun z dz => ?_⟩⟩
        exact hR m rfl _ _ _ ⟨w, u, z, ka', x, N, c1, rfl, du, dz, hx, hN, hN4, by omega, clx, nfx, w1.same s2, by omega, fun v e c' H' dv pe k3 w3 l3 => q' v e c' H' dv pe k3 w3 l3⟩
      · refine rep_at (i := 2) (P := VV (N + 1) kb') (C := c1 + NC m) w1 rfl rfl hv1 (by show (2 : Nat) ≤ 3; decide) (by show (3 : Nat) ≤ 4000000; decide) (fun H2 s2 Q' q' => ?_) fun v e c' H' pe dv k2 w2 l2 => q v _ c' H' dv (.pair (hx.mono (Nat.le_succ _)) pe) (k1.trans k2) w2 (by omega)
        refine ⟨_, rfl, _, rfl, _, rfl, ixD (i := 2) (hk1.keep s2) rfl fun u du => ⟨_, rfl, _, rfl, ixD (i := 2) (hv1.keep s2) rfl fun z dz => ?_⟩⟩
        exact hR m rfl _ _ _ ⟨w, u, z, kb', y, N, c1, rfl, du, dz, hy, hN, hN4, by omega, cly, nfy, w1.same s2, by omega, fun v e c' H' dv pe k3 w3 l3 => q' v e c' H' dv pe k3 w3 l3⟩
    | @left ka' kb' x hx =>
      obtain ⟨vx, vy, h, dx, dy⟩ := ka
      obtain ⟨m, rfl⟩ : ∃ m, n = m + 1 := ⟨n - 1, by have : max ka'.dep kb'.dep + 1 ≤ n := hdp; omega⟩
      have hdp' : max ka'.dep kb'.dep + 1 ≤ m + 1 := hdp
      have tt : NC (m + 1) = NC m + VC m + 3 := rfl
      have tm := NC_ge m
      have tv := VC_ge m
      obtain ⟨clx, cly⟩ := Bool.and_eq_true_iff.mp (show (ka'.closed && kb'.closed) = true from hcl)
      obtain ⟨nfx, nfy⟩ := Bool.and_eq_true_iff.mp (show (ka'.noFn && kb'.noFn) = true from hnf)
      refine ⟨_, rfl, a, _, 0, _, rfl, rfl, SqT.of h, rfl, rfl, _, rfl, ifF (no (by decide)) ?_⟩
      refine ⟨_, rfl, a, _, 0, _, rfl, rfl, SqT.of h, rfl, rfl, _, rfl, ifF (no (by decide)) ?_⟩
      refine ⟨_, rfl, a, _, 0, _, rfl, rfl, SqT.of h, rfl, rfl, _, rfl, ifF (no (by decide)) ?_⟩
      refine ⟨_, rfl, a, _, 0, _, rfl, rfl, SqT.of h, rfl, rfl, _, rfl, ifT (decide_eq_true rfl) ?_⟩
      obtain ⟨av, xs0, rfl, fav, hav, rav⟩ := hv.tupI
      obtain ⟨x0, x1, rfl, d0, d1⟩ := rav.two
      have e0 := d0.strI
      subst e0
      refine ⟨_, rfl, av, _, 0, _, rfl, rfl, SqT.of hav, rfl, rfl, _, rfl, ifT (decide_eq_true rfl) ?_⟩
      refine ⟨_, rfl, w, 4, c, rfl, hw, by omega, by decide, by decide, fun r c1 H1 r0 r1 k1 w1 l1 => ⟨rfl, _, rfl, ite2 (fun g => ?_) (fun g => ?_)⟩⟩
      all_goals
        have hk1 : Dt (Nw w) H1 (.ref a) (.tuple [.str "either", ka'.d, kb'.d]) := hk.kw k1
        have hv1 : Dt (Nw w) H1 (.ref av) (.tuple [.str "left", x]) := hv.kw k1
      · refine ⟨big _ (by show (2 : Nat) ≤ 1000; decide), fun t nt => ?_⟩
        have sm := @Same.new t _ (.tup [.str "right", .str "left"]) nt
        refine ⟨_, rfl, _, _, rfl, rfl, t, _, 0, _, rfl, rfl, SqT.of upd_same, rfl, _, rfl, _, rfl, _, rfl, _, _, rfl, rfl, ixD (i := 2) (hk1.keep sm) rfl fun u du => ?_⟩
        refine ⟨w, u, kb', c1, rfl, du, by omega, cly, nfy, w1.same sm, by show c1 + VC m < _; omega, fun v2 d2 c2 H2 e2 i2 g2 k3 w3 l3 => ⟨big _ (by show (2 : Nat) ≤ 1000; decide), fun p np => ?_⟩⟩
        have l3' : c2 ≤ c1 + VC m := l3
        exact q _ (.tuple [.str "right", d2]) c2 _ (layD (nwF w3) np (.cons (.str _) (.cons (e2.nw (w1.same sm).some) .nil))) (.right (i2.mono (by omega))) (k1.trans ((Kw.same sm).trans (k3.trans (Kw.new np)))) (w3.same (Same.new np)) (by omega)
      · have hav1 := k1 av _ fav hav
        refine ⟨_, rfl, av, _, 0, _, rfl, rfl, SqT.of hav1, rfl, ?_⟩
        refine ⟨_, rfl, _, rfl, _, rfl, ixD (i := 1) hk1 rfl fun u du => ⟨_, rfl, ixD (i := 1) hv1 rfl fun z dz => ?_⟩⟩
        refine hR m rfl _ _ _ ⟨w, u, z, ka', x, N, c1, rfl, du, dz, hx, hN, hN4, by omega, clx, nfx, w1, by omega, fun v2 d2 c2 H2 e2 i2 k3 w3 l3 => ⟨big _ (by show (2 : Nat) ≤ 1000; decide), fun p np => ?_⟩⟩
        exact q _ (.tuple [.str "left", d2]) c2 _ (layD (nwF w3) np (.cons (.str _) (.cons e2 .nil))) (.left i2) (k1.trans (k3.trans (Kw.new np))) (w3.same (Same.new np)) (by omega)
    | @right ka' kb' x hx =>
      obtain ⟨vx, vy, h, dx, dy⟩ := ka
      obtain ⟨m, rfl⟩ : ∃ m, n = m + 1 := ⟨n - 1, by have : max ka'.dep kb'.dep + 1 ≤ n := hdp; omega⟩
      have hdp' : max ka'.dep kb'.dep + 1 ≤ m + 1 := hdp
      have tt : NC (m + 1) = NC m + VC m + 3 := rfl
      have tm := NC_ge m
      have tv := VC_ge m
      obtain ⟨clx, cly⟩ := Bool.and_eq_true_iff.mp (show (ka'.closed && kb'.closed) = true from hcl)
      obtain ⟨nfx, nfy⟩ := Bool.and_eq_true_iff.mp (show (ka'.noFn && kb'.noFn) = true from hnf)
      refine ⟨_, rfl, a, _, 0, _, rfl, rfl, SqT.of h, rfl, rfl, _, rfl, ifF (no (by decide)) ?_⟩
      refine ⟨_, rfl, a, _, 0, _, rfl, rfl, SqT.of h, rfl, rfl, _, rfl, ifF (no (by decide)) ?_⟩
      refine ⟨_, rfl, a, _, 0, _, rfl, rfl, SqT.of h, rfl, rfl, _, rfl, ifF (no (by decide)) ?_⟩
      refine ⟨_, rfl, a, _, 0, _, rfl, rfl, SqT.of h, rfl, rfl, _, rfl, ifT (decide_eq_true rfl) ?_⟩
      obtain ⟨av, xs0, rfl, fav, hav, rav⟩ := hv.tupI
      obtain ⟨x0, x1, rfl, d0, d1⟩ := rav.two
      have e0 := d0.strI
      subst e0
      refine ⟨_, rfl, av, _, 0, _, rfl, rfl, SqT.of hav, rfl, rfl, _, rfl, ifF (no (by decide)) ?_⟩
      refine ⟨_, rfl, w, 4, c, rfl, hw, by omega, by decide, by decide, fun r c1 H1 r0 r1 k1 w1 l1 => ⟨rfl, _, rfl, ite2 (fun g => ?_) (fun g => ?_)⟩⟩
      all_goals
        have hk1 : Dt (Nw w) H1 (.ref a) (.tuple [.str "either", ka'.d, kb'.d]) := hk.kw k1
        have hv1 : Dt (Nw w) H1 (.ref av) (.tuple [.str "right", x]) := hv.kw k1
      · refine ⟨big _ (by show (2 : Nat) ≤ 1000; decide), fun t nt => ?_⟩
        have sm := @Same.new t _ (.tup [.str "right", .str "left"]) nt
        refine ⟨_, rfl, _, _, rfl, rfl, t, _, 1, _, rfl, rfl, SqT.of upd_same, rfl, _, rfl, _, rfl, _, rfl, _, _, rfl, rfl, ixD (i := 1) (hk1.keep sm) rfl fun u du => ?_⟩
        refine ⟨w, u, ka', c1, rfl, du, by omega, clx, nfx, w1.same sm, by show c1 + VC m < _; omega, fun v2 d2 c2 H2 e2 i2 g2 k3 w3 l3 => ⟨big _ (by show (2 : Nat) ≤ 1000; decide), fun p np => ?_⟩⟩
        have l3' : c2 ≤ c1 + VC m := l3
        exact q _ (.tuple [.str "left", d2]) c2 _ (layD (nwF w3) np (.cons (.str _) (.cons (e2.nw (w1.same sm).some) .nil))) (.left (i2.mono (by omega))) (k1.trans ((Kw.same sm).trans (k3.trans (Kw.new np)))) (w3.same (Same.new np)) (by omega)
      · have hav1 := k1 av _ fav hav
        refine ⟨_, rfl, av, _, 0, _, rfl, rfl, SqT.of hav1, rfl, ?_⟩
        refine ⟨_, rfl, _, rfl, _, rfl, ixD (i := 2) hk1 rfl fun u du => ⟨_, rfl, ixD (i := 1) hv1 rfl fun z dz => ?_⟩⟩
        refine hR m rfl _ _ _ ⟨w, u, z, kb', x, N, c1, rfl, du, dz, hx, hN, hN4, by omega, cly, nfy, w1, by omega, fun v2 d2 c2 H2 e2 i2 k3 w3 l3 => ⟨big _ (by show (2 : Nat) ≤ 1000; decide), fun p np => ?_⟩⟩
        exact q _ (.tuple [.str "right", d2]) c2 _ (layD (nwF w3) np (.cons (.str _) (.cons e2 .nil))) (.right i2) (k1.trans (k3.trans (Kw.new np))) (w3.same (Same.new np)) (by omega)
    | @lst ka' xs hl hx =>
      obtain ⟨vx, h, dx⟩ := ka
      obtain ⟨m, rfl⟩ : ∃ m, n = m + 1 := ⟨n - 1, by have : ka'.dep + 1 ≤ n := hdp; omega⟩
      have hdp' : ka'.dep + 1 ≤ m + 1 := hdp
      have tt : NC (m + 1) = NC m + VC m + 3 := rfl
      have tm := NC_ge m
      have tv := VC_ge m
      refine ⟨_, rfl, a, _, 0, _, rfl, rfl, SqT.of h, rfl, rfl, _, rfl, ifF (no (by decide)) ?_⟩
      refine ⟨_, rfl, a, _, 0, _, rfl, rfl, SqT.of h, rfl, rfl, _, rfl, ifF (no (by decide)) ?_⟩
      refine ⟨_, rfl, a, _, 0, _, rfl, rfl, SqT.of h, rfl, rfl, _, rfl, ifF (no (by decide)) ?_⟩
      refine ⟨_, rfl, a, _, 0, _, rfl, rfl, SqT.of h, rfl, rfl, _, rfl, ifF (no (by decide)) ?_⟩
      obtain ⟨av, xv, rfl, sv, lv⟩ := lenD hv
      refine ⟨_, rfl, _, rfl, _, _, rfl, .inr ⟨_, sv, rfl⟩, _, _, rfl, rfl, w, _, c, rfl, hw, by omega, by omega, by omega, fun r c1 H1 r0 r1 k1 w1 l1 => ?_⟩
      refine ⟨_, rfl, w, 5, c1, rfl, w1, by omega, by decide, by decide, fun r2 c2 H2 r20 r21 k2 w2 l2 => ?_⟩
      obtain ⟨i, rfl⟩ := Int.eq_ofNat_of_zero_le r0
      have k12 := k1.trans k2
      have hi : i ≤ xs.length := by omega
      have hz : xs.length ≤ 4000000 := by omega
      have hv2 : Dt (Nw w) H2 (.ref av) (.tuple xs) := hv.kw k12
      have hk2 : Dt (Nw w) H2 (.ref a) (.tuple [.str "list", ka'.d]) := hk.kw k12
      have lt1 : (xs.take i).length ≤ N := by rw [List.length_take]; omega
      have mono : ∀ z ∈ xs, VV (N + 1) ka' z := fun z hz => (hx z hz).mono (Nat.le_succ _)
      refine ⟨_, _, rfl, ?_⟩
      refine ⟨_, rfl, rfl, _, rfl, ite2 (fun g => ?_) (fun g => ?_)⟩
      · exact slL w2 rfl rfl hv2 hi fun v H3 s3 dv => q v _ c2 H3 dv (.lst (by omega) fun z hz => mono z (List.mem_of_mem_take hz)) (k12.trans (Kw.same s3)) (w2.same s3) (by omega)
      · have hk2' : ∀ H3, Same H2 H3 → ∀ (Q' : VK), (∀ u, Dt (Nw w) H3 u ka'.d → Q' u H3) → rIxT K (.ref a) (.int ((1 : Nat) : Int)) H3 Q' := fun H3 s3 Q' q' => ixD (i := 1) (hk2.keep s3) rfl q'
        have ha2 := k12 a _ fa h
        have dx2 := dx.kw k12
        have ins : ∀ {tr : TE}, (∀ Q' : VK, tOp (rCatA K) (tOp (rCatA K) (tSl (rSlA K) (tVar 2) tNoPart (tPart (tVar 3))) (tTup (tCons (tCall (spVal (m + 1 - 1)) [] E0 (tCons (tVar 0) (tCons (tOp (rIxT K) (tVar 1) (tC (V.int 1))) tNil))) tNil))) (tSl (rSlA K) (tVar 2) (tPart (tVar 3)) tNoPart)
            [some (.ref w), some (.ref a), some (.ref av), some (.int (i : Int)), none, some (.int r2)] H2 Q' → tr [some (.ref w), some (.ref a), some (.ref av), some (.int (i : Int)), none, some (.int r2)] H2 Q') →
            tr [some (.ref w), some (.ref a), some (.ref av), some (.int (i : Int)), none, some (.int r2)] H2 Q := fun {tr} e => e Q (by
          refine ins_at (i := i) (P := VV 4 ka') (C := c2 + VC m) w2 rfl rfl hv2 hi hz (fun H3 s3 Q' q' => ?_) fun v e c' H' pe dv k3 w3 l3 => q v _ c' H' dv (.lst (by simp only [List.length_append, List.length_take, List.length_drop, List.length_singleton]; omega) fun z hz => ?_) (k12.trans k3) w3 (by omega)
          · refine ⟨_, rfl, _, rfl, hk2' H3 s3 _ fun u du => ?_⟩
            exact ⟨w, u, ka', c2, rfl, du, by omega, hcl, hnf, w2.same s3, by show c2 + VC m < _; omega, fun v d c' H' dv pe gv k3 w3 l3 => q' v d c' H' (dv.nw (w2.same s3).some) pe k3 w3 l3⟩
          · rcases List.mem_append.mp hz with hz | hz
            · rcases List.mem_append.mp hz with hz | hz
              · exact mono z (List.mem_of_mem_take hz)
              · rw [List.mem_singleton.mp hz]; exact pe.mono (by omega)
            · exact mono z (List.mem_of_mem_drop hz))
        refine ⟨_, rfl, rfl, _, rfl, ite2 (fun g1 => ?_) (fun g1 => ?_)⟩
        · exact iteT (ins fun _ h => h)
        · obtain ⟨av2, xv2, e2, sv2, lv2⟩ := lenD hv2
          cases e2
          refine ⟨_, rfl, _, rfl, _, _, rfl, .inr ⟨_, sv2, rfl⟩, rfl, _, rfl, ite2 (fun g2 => ?_) (fun g2 => ?_)⟩
          · exact ins fun _ h => h
          · have hlt : i < xs.length := by
              have : ¬ V.int (i : Int) = V.int ((xv2.length : Nat) : Int) := of_decide_eq_false (by simpa using g2)
              have : i ≠ xv2.length := fun z => this (by rw [z])
              omega
            refine ⟨_, rfl, rfl, _, rfl, ite2 (fun g3 => ?_) (fun g3 => ?_)⟩
            · refine del_at w2 rfl rfl hv2 hi hz fun v H3 dv s3 => q v _ c2 H3 dv (.lst (by simp only [List.length_append, List.length_take, List.length_drop]; omega) fun z hz => ?_) (k12.trans (Kw.same s3)) (w2.same s3) (by omega); rcases List.mem_append.mp hz with hz | hz
              · exact mono z (List.mem_of_mem_take hz)
              · exact mono z (List.mem_of_mem_drop hz)
            · refine rep_at (i := i) (P := VV (N + 1) ka') (C := c2 + NC m) w2 rfl rfl hv2 hi hz (fun H3 s3 Q' q' => ?_) fun v e c' H' pe dv k3 w3 l3 => q v _ c' H' dv (.lst (by simp only [List.length_append, List.length_take, List.length_drop, List.length_singleton]; omega) fun z hz => ?_) (k12.trans k3) w3 (by omega)
              · refine ⟨_, rfl, _, rfl, a, _, 1, _, rfl, rfl, SqT.of (s3 a _ ha2), rfl, ?_⟩
                refine ⟨_, rfl, _, rfl, ixD (i := i) (hv2.keep s3) (List.getElem?_eq_getElem hlt) fun z dz => ?_⟩
                exact hR m rfl _ _ _ ⟨w, vx, z, ka', _, N, c2, rfl, dx2.keep s3, dz, hx _ (List.getElem_mem hlt), hN, hN4, by omega, hcl, hnf, w2.same s3, by omega, fun v e c' H' dv pe k3 w3 l3 => q' v e c' H' dv pe k3 w3 l3⟩
              · rcases List.mem_append.mp hz with hz | hz
                · rcases List.mem_append.mp hz with hz | hz
                  · exact mono z (List.mem_of_mem_take hz)
                  · rw [List.mem_singleton.mp hz]; exact pe
                · exact mono z (List.mem_of_mem_drop hz)
theorem ok_near {f fD fP fV : Addr} {fd fdD fdP fdV : FuncData} (F : FnP K "_law_near" (top 35) f fd) (T : Bl K mg)
    (FD : FnP K "_law_draw" (top 26) fD fdD) (gD : mg "_law_draw" = some (.ref fD)) (bD : Binds K fdD ["_law_well_here", "_law_many"] [])
    (FP : FnP K "_law_pick" (top 27) fP fdP) (gP : mg "_law_pick" = some (.ref fP)) (bP : Binds K fdP ["_law_well_here", "_law_some"] [])
    (FV : FnP K "_law_value" (top 34) fV fdV) (gV : mg "_law_value" = some (.ref fV)) (bV : Binds K fdV ["_law_well_here", "_law_kind_here"] []) (GVal : ∀ n : Nat, FnOk P w K mg base CX0 (3 + n + 1) fV fdV ["_law_well_here", "_law_kind_here"] (spVal n))
    (gR : mg "_law_near" = some (.ref f)) (bR : Binds K fd ["_law_well_here", "_law_kind_here", "_law_value_here"] []) : ∀ n : Nat, FnOk P w K mg base CX0 (4 + n + 1) f fd ["_law_well_here", "_law_kind_here", "_law_value_here"] (spNear n)
  | 0 => near_body 0 (spR := fun _ _ _ _ => False) F T FD gD bD FP gP bP FV gV bV GVal gR bR ⟨fun _ _ _ _ h => h.elim, fun _ _ _ _ _ _ _ _ _ _ _ _ _ h => h.elim⟩ fun m e => by cases e
  | n + 1 => near_body (n + 1) F T FD gD bD FP gP bP FV gV bV GVal gR bR (ok_near F T FD gD bD FP gP bP FV gV bV GVal gR bR n) fun m e => by cases e; exact fun _ _ _ h => h
end
end K3
namespace KB
open PySem L2 PySem.Spec PyProof.Rows
theorem ixT {X : Cx} {K : PySem.W.Frag} (h : X.K = K) : IxR X (rIxT K) := by
  rw [← h]
  exact ix_tup
theorem isV_unit (d : PyData) (ds : List PyData) : isV .unit (.tuple (d :: ds)) = false := by
  cases ds <;> rfl
theorem isV_notup {k : Kd} {d : PyData} (hk : k ≠ .num) (hd : isTup d = false) : isV k d = false := by
  cases k <;> cases d <;> first | rfl | exact absurd rfl hk | cases hd
theorem isV_lst (a : Kd) (ds : List PyData) : isV (.lst a) (.tuple ds) = ds.all fun x => isV a x := by
  simp only [isV]
theorem isV_pair0 (a b : Kd) : isV (.pair a b) (.tuple []) = false := rfl
theorem isV_eith0 (a b : Kd) : isV (.eith a b) (.tuple []) = false := rfl
theorem isV_pairS {a b : Kd} {d : PyData} {ds : List PyData} (h : isStr d = false) : isV (.pair a b) (.tuple (d :: ds)) = false := by
  cases d <;> first | (cases h; done) | (rcases ds with _ | ⟨x, _ | ⟨y, _ | ⟨z, r⟩⟩⟩ <;> rfl)
theorem isV_eithS {a b : Kd} {d : PyData} {ds : List PyData} (h : isStr d = false) : isV (.eith a b) (.tuple (d :: ds)) = false := by
  cases d <;> first | (cases h; done) | (rcases ds with _ | ⟨x, _ | ⟨y, r⟩⟩ <;> rfl)
theorem isV_pairL {a b : Kd} {ds : List PyData} (h : ds.length ≠ 3) : isV (.pair a b) (.tuple ds) = false := by
  rcases ds with _ | ⟨d, _ | ⟨x, _ | ⟨y, _ | ⟨z, r⟩⟩⟩⟩
  · rfl
  · cases d <;> rfl
  · cases d <;> rfl
  · exact absurd rfl h
  · cases d <;> rfl
theorem isV_eithL {a b : Kd} {ds : List PyData} (h : ds.length ≠ 2) : isV (.eith a b) (.tuple ds) = false := by
  rcases ds with _ | ⟨d, _ | ⟨x, _ | ⟨y, r⟩⟩⟩
  · rfl
  · cases d <;> rfl
  · exact absurd rfl h
  · cases d <;> rfl
theorem notIn_all (ds : List PyData) (p : PyData → Bool) : (!inV (V.bl false) (ds.map fun z => V.bl (p z))) = ds.all p := by
  induction ds with
  | nil => rfl
  | cons d ds ih =>
    have e : inV (V.bl false) ((d :: ds).map fun z => V.bl (p z)) = (eqV (V.bl (p d)) (V.bl false) || inV (V.bl false) (ds.map fun z => V.bl (p z))) := rfl
    rw [e, Bool.not_or, ih, List.all_cons]
    cases p d <;> rfl
/-- the law's own is_value(kind, thing) -/
def spIsV (n : Nat) : Sp := fun vs H Q _ => ∃ (F : Addr → Prop) (kv tv : V) (k : Kd) (d : PyData) (m : Nat), vs = [kv, tv] ∧ Dt F H kv k.d ∧ Dt F H tv d ∧ k.dep ≤ n ∧ k.closed = true ∧ k.noFn = true ∧ Sd m 10000000 d ∧ ∀ H' : Hp, Same H H' → Q (.bl (isV k d)) H'
end KB
namespace K3
open PySem PySem.Spec PyProof.Rows L2 KB
section
variable {K : PySem.W.Frag} {mg : Str → Option Value} {base : Heap} {P : Program} {w : World}
abbrev nIsV : List Str := ["_law_kind_here", "_law_thing", "_law_each"]
theorem scIsV : FnScope nIsV ["_law_kind_here", "_law_thing"] (defScope (top 36)) := ⟨rfl, rfl, rfl, by decide +kernel, rfl, by decide +kernel, by decide +kernel⟩
theorem isv_body (n : Nat) {f : Addr} {fd : FuncData} {spR : Sp} (F : FnP K "_law_is_value" (top 36) f fd) (T : Bl K mg)
    (gR : mg "_law_is_value" = some (.ref f)) (bR : Binds K fd ["_law_kind_here", "_law_thing"] []) (GR : FnOk P w K mg base CX0 n f fd ["_law_kind_here", "_law_thing"] spR)
    (hR : ∀ m, n = m + 1 → ∀ vs H Q, spIsV m vs H Q E0 → spR vs H Q E0) : FnOk P w K mg base CX0 (n + 1) f fd ["_law_kind_here", "_law_thing"] (spIsV n) := by
  refine F.ok scIsV (fun vs H Q E h => ?_) (fun cdv A outer s H vs Q E hr h => ?_)
  · obtain ⟨F, kv, tv, k, d, m, rfl, _⟩ := h
    rfl
  · obtain ⟨Fa, kv, tv, k, d, mm, rfl, hk, hd, hdp, hcl, hnf, hsz, q⟩ := h
    have sc := scIsV
    have hrR : Room n _ := hr
    refine ⟨_, PSs.nox (pss_cons (ps_if (pt_cmpR op_eq (pe_ix ix_tup (pv 0) pe_int (fun _ _ => rfl)) pe_str (nomark _)) (pss_one (ps_ret (pe_and (pe_callB call_isi (by rfl) T.isinstance (by decide +kernel) (pa_cons (pv 1) (pa_cons (pe_bltn (v := .ty "int") (by rfl) T.int (by decide +kernel) rfl) pa_nil))) (pe_one (pe_not (pe_callB call_isi (by rfl) T.isinstance (by decide +kernel) (pa_cons (pv 1) (pa_cons (pe_bltn (v := .ty "bool") (by rfl) T.bool (by decide +kernel) rfl) pa_nil)))))))) pss_nil) (pss_cons (ps_if (pt_not (pt_val (pe_callB call_isi (by rfl) T.isinstance (by decide +kernel) (pa_cons (pv 1) (pa_cons (pe_bltn (v := .ty "tuple") (by rfl) T.tuple (by decide +kernel) rfl) pa_nil))))) (pss_one (ps_ret pe_bl)) pss_nil) (pss_cons (ps_if (pt_cmpR op_eq (pe_ix ix_tup (pv 0) pe_int (fun _ _ => rfl)) pe_str (nomark _)) (pss_one (ps_ret (pe_cmpR op_notIn_seq pe_bl (pe_lc (own := [("_law_each", 2)]) (g := gName 2) (tt := tYes) (by rfl) sc.nd (pi_tup (pv 1)) (blkOk_by (own := [("_law_each", 2)]) (N := nIsV) (sc := (defScope (top 36))) (by decide +kernel)) (fun _ _ _ _ _ => pg_name (i := 2) sc.nd rfl (Or.inl rfl)) (fun _ _ _ _ _ => pts_nil) (fun _ _ _ _ _ => (pe_call GR hrR rfl gR F.kp bR .nil pass0 (pa_cons (pe_ix (ixT (K := K) rfl) (pv 0) pe_int (fun _ _ => rfl)) (pa_cons (pv 2) pa_nil))))) (by rfl)))) pss_nil) (pss_cons (ps_if (PW.pt (pw_or (pt_cmpR op_eq (pe_ix ix_tup (pv 0) pe_int (fun _ _ => rfl)) pe_str (nomark _)) (pw_or1 (pt_cmpR (op_eqE hr.units0) (pv 1) (pe_tup pa_nil) (nomark _))))) (pss_one (ps_ret (pe_and (pe_cmpR op_eq (pe_ix ix_tup (pv 0) pe_int (fun _ _ => rfl)) pe_str (nomark _)) (pe_one (pe_cmpR op_eq (pe_callB call_len (by rfl) T.len (by decide +kernel) (pa_cons (pv 1) pa_nil)) pe_int (nomark _)))))) pss_nil) (pss_cons (ps_if (pt_not (pt_val (pe_callB call_isi (by rfl) T.isinstance (by decide +kernel) (pa_cons (pe_ix ix_tup (pv 1) pe_int (fun _ _ => rfl)) (pa_cons (pe_bltn (v := .ty "str") (by rfl) T.str (by decide +kernel) rfl) pa_nil))))) (pss_one (ps_ret pe_bl)) pss_nil) (pss_cons (ps_if (pt_cmpR op_eq (pe_ix ix_tup (pv 0) pe_int (fun _ _ => rfl)) pe_str (nomark _)) (pss_cons (ps_if (PW.pt (pw_or (pt_cmpR op_ne (pe_callB call_len (by rfl) T.len (by decide +kernel) (pa_cons (pv 1) pa_nil)) pe_int (nomark _)) (pw_or1 (pt_cmpR op_ne (pe_ix ix_tup (pv 1) pe_int (fun _ _ => rfl)) pe_str (nomark _))))) (pss_one (ps_ret pe_bl)) pss_nil) (pss_one (ps_ret (pe_and (pe_call GR hrR rfl gR F.kp bR .nil pass0 (pa_cons (pe_ix ix_tup (pv 0) pe_int (fun _ _ => rfl)) (pa_cons (pe_ix ix_tup (pv 1) pe_int (fun _ _ => rfl)) pa_nil))) (pe_one (pe_call GR hrR rfl gR F.kp bR .nil pass0 (pa_cons (pe_ix ix_tup (pv 0) pe_int (fun _ _ => rfl)) (pa_cons (pe_ix ix_tup (pv 1) pe_int (fun _ _ => rfl)) pa_nil)))))))) pss_nil) (pss_cons (ps_if (PW.pt (pw_or (pt_cmpR op_ne (pe_callB call_len (by rfl) T.len (by decide +kernel) (pa_cons (pv 1) pa_nil)) pe_int (nomark _)) (pw_or1 (pt_cmpR op_notIn_seq (pe_ix ix_tup (pv 1) pe_int (fun _ _ => rfl)) (pe_tup (pa_cons pe_str (pa_cons pe_str pa_nil))) (by rfl))))) (pss_one (ps_ret pe_bl)) pss_nil) (pss_one (ps_ret (pe_call GR hrR rfl gR F.kp bR .nil pass0 (pa_cons (pe_ifExp (pt_cmpR op_eq (pe_ix ix_tup (pv 1) pe_int (fun _ _ => rfl)) pe_str (nomark _)) (pe_ix ix_tup (pv 0) pe_int (fun _ _ => rfl)) (pe_ix ix_tup (pv 0) pe_int (fun _ _ => rfl))) (pa_cons (pe_ix ix_tup (pv 1) pe_int (fun _ _ => rfl)) pa_nil)))))))))))), ?_⟩
    have big : ∀ k : Nat, k ≤ 1000 → k ≤ sizeLine := fun k h => Nat.le_of_lt (small1000 h)
    obtain ⟨a, rfl, fa, ka⟩ := kd_at hk
    have no : ∀ {x y : Str}, x ≠ y → decide (V.str x = V.str y) = false := fun h => decide_eq_false fun z => h (V.str.inj z)
    obtain ⟨ty, tyx, k1, k2, k3, k4⟩ := tyD (K := K) hd
    cases k with
    | var x => cases hcl
    | fn x y => cases hnf
    | num =>
      refine ⟨_, rfl, a, _, 0, _, rfl, rfl, SqT.of ka, rfl, rfl, _, rfl, ifT (decide_eq_true rfl) ?_⟩
      refine ⟨_, rfl, _, _, ty, _, _, rfl, .ty _, tyx, k1, _, rfl, ?_⟩
      cases hd with
      | int i => exact ifT rfl ⟨_, rfl, _, _, ty, _, _, rfl, .ty _, tyx, k2, _, rfl, q H (Same.refl H)⟩
      | bl b => exact ifT rfl ⟨_, rfl, _, _, ty, _, _, rfl, .ty _, tyx, k2, _, rfl, q H (Same.refl H)⟩
      | non => exact ifF rfl (q H (Same.refl H))
      | str x => exact ifF rfl (q H (Same.refl H))
      | lst f h r => exact ifF rfl (q H (Same.refl H))
      | tup f h r => exact ifF rfl (q H (Same.refl H))
      | emp f h => exact ifF rfl (q H (Same.refl H))
    | unit =>
      refine ⟨_, rfl, a, _, 0, _, rfl, rfl, SqT.of ka, rfl, rfl, _, rfl, ifF (no (by decide)) ?_⟩
      refine ⟨_, rfl, _, _, ty, _, _, rfl, .ty _, tyx, k3, _, rfl, ?_⟩
      cases hd with
      | tup f h r =>
        rename_i t xs ds
        refine ifF rfl ?_
        refine ⟨_, rfl, a, _, 0, _, rfl, rfl, SqT.of ka, rfl, rfl, _, rfl, ifF (no (by decide)) ?_⟩
        refine ⟨_, rfl, a, _, 0, _, rfl, rfl, SqT.of ka, rfl, rfl, _, rfl, ifT (decide_eq_true rfl) (iteT ?_)⟩
        refine ⟨_, rfl, a, _, 0, _, rfl, rfl, SqT.of ka, rfl, rfl, _, rfl, ifT (decide_eq_true rfl) ?_⟩
        refine ⟨_, rfl, _, _, rfl, .inr ⟨_, SqT.of h, rfl⟩, rfl, ?_⟩
        have q' := q H (Same.refl H)
        have e : decide (V.int ((xs.length : Nat) : Int) = V.int 0) = isV .unit (.tuple ds) := by
          cases r with
          | nil => rfl
          | cons a r =>
            rw [isV_unit]
            exact decide_eq_false fun z => by
              have := V.int.inj z
              rw [List.length_cons] at this
              omega
        rw [e]
        exact q'
      | non => exact iteT (q H (Same.refl H))
      | bl b => exact iteT (q H (Same.refl H))
      | int i => exact iteT (q H (Same.refl H))
      | str x => exact iteT (q H (Same.refl H))
      | lst f h r => exact iteT (q H (Same.refl H))
      | emp f h => exact iteT (q H (Same.refl H))
    | lst x =>
      obtain ⟨vx, h0, dx⟩ := ka
      obtain ⟨m, rfl⟩ : ∃ m, n = m + 1 := ⟨n - 1, by have : x.dep + 1 ≤ n := hdp; omega⟩
      have hdp' : x.dep + 1 ≤ m + 1 := hdp
      refine ⟨_, rfl, a, _, 0, _, rfl, rfl, SqT.of h0, rfl, rfl, _, rfl, ifF (no (by decide)) ?_⟩
      refine ⟨_, rfl, _, _, ty, _, _, rfl, .ty _, tyx, k3, _, rfl, ?_⟩
      cases hd with
      | tup f h r =>
        rename_i t xs ds
        refine ifF rfl ?_
        refine ⟨_, rfl, a, _, 0, _, rfl, rfl, SqT.of h0, rfl, rfl, _, rfl, ifT (decide_eq_true rfl) ?_⟩
        have ll := r.length
        have lz := hsz.len
        refine ⟨_, rfl, t, rfl, ⟨_, SqT.of h⟩, fun D nD => lc_tup (K := K) (a := t) (xs := xs) (fun i H2 => Same H H2 ∧ H2 D = some (.lst ((ds.take i).map fun z => V.bl (isV x z)))) ⟨Same.new nD, upd_same⟩ (fun i H2 _ hP => SqT.of (hP.1 t _ h)) ?_ ?_⟩
        · rintro i e H2 hi ⟨sm, hD⟩
          obtain ⟨de, hde, dte⟩ := r.get hi
          have il : i < xs.length := (List.getElem?_eq_some_iff.mp hi).1
          refine ⟨rfl, ?_⟩
          refine iteT (B := Same H H2 ∧ H2 D = some (.lst ((ds.take (i + 1)).map fun z => V.bl (isV x z)))) ?_
          refine ⟨_, rfl, a, _, 1, _, rfl, rfl, SqT.of (sm a _ h0), rfl, _, rfl, ?_⟩
          refine hR m rfl _ _ _ ⟨Fa, vx, e, x, de, mm, rfl, dx.keep sm, dte.keep sm, by omega, hcl, hnf, hsz.parts.all de (List.mem_of_getElem? hde), fun H3 s3 => ?_⟩
          refine ⟨_, s3 _ _ hD, Nat.lt_of_le_of_lt (by rw [List.length_map, List.length_take]; omega : _ ≤ 10000000) (by decide), fun b o e2 => ?_, ?_⟩
          · rw [upd_ne (ne_of_none e2 nD)]
            exact s3 b o (sm b o e2)
          · rw [upd_same, List.take_add_one, hde, List.map_append]
            rfl
        · rintro H2 ⟨sm, hD⟩
          rw [ll, List.take_length] at hD
          refine ⟨D, _, rfl, .inl (SqL.of hD), rfl, ?_, ?_⟩
          · rw [List.all_eq_true]
            intro z hz
            obtain ⟨y, _, rfl⟩ := List.mem_map.mp hz
            rfl
          · have e : (!inV (V.bl false) (ds.map fun z => V.bl (isV x z))) = isV (.lst x) (.tuple ds) := by
              rw [isV_lst]
              exact notIn_all ds _
            show Q (.bl (!inV (V.bl false) (ds.map fun z => V.bl (isV x z)))) H2
            rw [e]
            exact q H2 sm
      | non => exact iteT (by have := q H (Same.refl H); rwa [isV_notup (by intro z; cases z) rfl] at this)
      | bl b => exact iteT (by have := q H (Same.refl H); rwa [isV_notup (by intro z; cases z) rfl] at this)
      | int i => exact iteT (by have := q H (Same.refl H); rwa [isV_notup (by intro z; cases z) rfl] at this)
      | str x => exact iteT (by have := q H (Same.refl H); rwa [isV_notup (by intro z; cases z) rfl] at this)
      | lst f h r => exact iteT (by have := q H (Same.refl H); rwa [isV_notup (by intro z; cases z) rfl] at this)
      | emp f h => exact iteT (by have := q H (Same.refl H); rwa [isV_notup (by intro z; cases z) rfl] at this)
    | pair x y =>
      obtain ⟨vx, vy, h0, dx, dy⟩ := ka
      obtain ⟨m, rfl⟩ : ∃ m, n = m + 1 := ⟨n - 1, by have : max x.dep y.dep + 1 ≤ n := hdp; omega⟩
      have hdp' : max x.dep y.dep + 1 ≤ m + 1 := hdp
      obtain ⟨clx, cly⟩ := Bool.and_eq_true_iff.mp (show (x.closed && y.closed) = true from hcl)
      obtain ⟨nfx, nfy⟩ := Bool.and_eq_true_iff.mp (show (x.noFn && y.noFn) = true from hnf)
      refine ⟨_, rfl, a, _, 0, _, rfl, rfl, SqT.of h0, rfl, rfl, _, rfl, ifF (no (by decide)) ?_⟩
      refine ⟨_, rfl, _, _, ty, _, _, rfl, .ty _, tyx, k3, _, rfl, ?_⟩
      cases hd with
      | tup f h r =>
        rename_i t xs ds
        refine ifF rfl ?_
        refine ⟨_, rfl, a, _, 0, _, rfl, rfl, SqT.of h0, rfl, rfl, _, rfl, ifF (no (by decide)) ?_⟩
        refine ⟨_, rfl, a, _, 0, _, rfl, rfl, SqT.of h0, rfl, rfl, _, rfl, ifF (no (by decide)) ?_⟩
        refine ⟨_, rfl, Nat.zero_le _, fun e0 ne => ?_⟩
        have sm := @Same.new e0 _ (.tup []) ne
        have h1 := sm t _ h
        have h01 := sm a _ h0
        have dx1 := dx.keep sm
        have dy1 := dy.keep sm
        have r1 := r.keep sm
        refine ⟨t, e0, xs, rfl, rfl, SqT.of h1, SqT.of upd_same, _, rfl, ?_⟩
        cases r1 with
        | nil =>
          refine ifT rfl ?_
          refine ⟨_, rfl, a, _, 0, _, rfl, rfl, SqT.of h01, rfl, rfl, _, rfl, ifF (no (by decide)) ?_⟩
          exact q _ sm
        | cons d0 r2 =>
          rename_i v0 vr de0 dr
          refine ifF rfl ?_
          obtain ⟨ty0, tyx0, _, _, _, k40⟩ := tyD (K := K) d0
          refine ⟨_, rfl, t, _, 0, _, rfl, rfl, SqT.of h1, atI_nat (j := 0) rfl, _, _, ty0, _, _, rfl, .ty _, tyx0, k40, _, rfl, ?_⟩
          cases hs : isStr de0 with
          | false =>
            refine iteT ?_
            have := q _ sm
            rwa [isV_pairS hs] at this
          | true =>
            refine iteF ?_
            obtain ⟨p, rfl⟩ : ∃ p, de0 = .str p := by
              cases de0 <;> first | exact ⟨_, rfl⟩ | cases hs
            have ev := d0.strI
            subst ev
            refine ⟨_, rfl, a, _, 0, _, rfl, rfl, SqT.of h01, rfl, rfl, _, rfl, ifT (decide_eq_true rfl) ?_⟩
            have ll := r2.length
            refine ⟨_, rfl, _, _, rfl, .inr ⟨_, SqT.of h1, rfl⟩, rfl, _, rfl, ite2 (fun g => ?_) (fun g => ?_)⟩
            · refine iteT ?_
              have := q _ sm
              rwa [isV_pairL] at this
              intro z
              have g' : ¬ V.int ((((V.str p) :: vr).length : Nat) : Int) = V.int 3 := by simpa using g
              apply g'
              rw [List.length_cons] at z ⊢
              rw [ll, z]
              rfl
            · have g' : V.int ((((V.str p) :: vr).length : Nat) : Int) = V.int 3 := by simpa using g
              have l3 : vr.length = 2 := by
                have := V.int.inj g'
                rw [List.length_cons] at this
                omega
              match vr, dr, r2, l3, h1, ll with
              | [v1, v2], [d1, d2], .cons e1 (.cons e2 .nil), _, h1, _ =>
                refine ⟨_, rfl, t, _, 0, _, rfl, rfl, SqT.of h1, rfl, rfl, _, rfl, ite2 (fun g2 => ?_) (fun g2 => ?_)⟩
                · have np : p ≠ "pair" := by
                    intro z
                    subst z
                    exact absurd g2 (by decide)
                  have := q _ sm
                  rwa [show isV (.pair x y) (.tuple [.str p, d1, d2]) = (decide (p = "pair") && (isV x d1 && isV y d2)) by simp only [isV], decide_eq_false np, Bool.false_and] at this
                · have ep : p = "pair" := by
                    by_cases z : p = "pair"
                    · exact z
                    · exact absurd (show (!decide (V.str p = V.str "pair")) = true by rw [no z]; rfl) g2
                  subst ep
                  have sp := hsz.parts
                  have fin := fun H' (s : Same _ H') => q H' (sm.trans s)
                  rw [show isV (.pair x y) (.tuple [.str "pair", d1, d2]) = (decide (("pair" : Str) = "pair") && (isV x d1 && isV y d2)) by simp only [isV], decide_eq_true rfl, Bool.true_and] at fin
                  refine ⟨_, rfl, a, _, 1, _, rfl, rfl, SqT.of h01, rfl, _, rfl, t, _, 1, _, rfl, rfl, SqT.of h1, rfl, ?_⟩
                  refine hR m rfl _ _ _ ⟨Fa, vx, v1, x, d1, mm, rfl, dx1, e1, by omega, clx, nfx, sp.all d1 (List.mem_cons_of_mem _ List.mem_cons_self), fun H2 s2 => ⟨_, rfl, ?_⟩⟩
                  cases hb : isV x d1 with
                  | false =>
                    refine iteF ?_
                    have := fin _ s2
                    rwa [hb, Bool.false_and] at this
                  | true =>
                    refine iteT ?_
                    refine ⟨_, rfl, a, _, 2, _, rfl, rfl, SqT.of (s2 a _ h01), rfl, _, rfl, t, _, 2, _, rfl, rfl, SqT.of (s2 t _ h1), rfl, ?_⟩
                    refine hR m rfl _ _ _ ⟨Fa, vy, v2, y, d2, mm, rfl, dy1.keep s2, e2.keep s2, by omega, cly, nfy, sp.all d2 (List.mem_cons_of_mem _ (List.mem_cons_of_mem _ List.mem_cons_self)), fun H3 s3 => ?_⟩
                    have := fin _ (s2.trans s3)
                    rwa [hb, Bool.true_and] at this
      | non => exact iteT (by have := q H (Same.refl H); rwa [isV_notup (by intro z; cases z) rfl] at this)
      | bl b => exact iteT (by have := q H (Same.refl H); rwa [isV_notup (by intro z; cases z) rfl] at this)
      | int i => exact iteT (by have := q H (Same.refl H); rwa [isV_notup (by intro z; cases z) rfl] at this)
      | str x => exact iteT (by have := q H (Same.refl H); rwa [isV_notup (by intro z; cases z) rfl] at this)
      | lst f h r => exact iteT (by have := q H (Same.refl H); rwa [isV_notup (by intro z; cases z) rfl] at this)
      | emp f h => exact iteT (by have := q H (Same.refl H); rwa [isV_notup (by intro z; cases z) rfl] at this)
    | eith x y =>
      obtain ⟨vx, vy, h0, dx, dy⟩ := ka
      obtain ⟨m, rfl⟩ : ∃ m, n = m + 1 := ⟨n - 1, by have : max x.dep y.dep + 1 ≤ n := hdp; omega⟩
      have hdp' : max x.dep y.dep + 1 ≤ m + 1 := hdp
      obtain ⟨clx, cly⟩ := Bool.and_eq_true_iff.mp (show (x.closed && y.closed) = true from hcl)
      obtain ⟨nfx, nfy⟩ := Bool.and_eq_true_iff.mp (show (x.noFn && y.noFn) = true from hnf)
      refine ⟨_, rfl, a, _, 0, _, rfl, rfl, SqT.of h0, rfl, rfl, _, rfl, ifF (no (by decide)) ?_⟩
      refine ⟨_, rfl, _, _, ty, _, _, rfl, .ty _, tyx, k3, _, rfl, ?_⟩
      cases hd with
      | tup f h r =>
        rename_i t xs ds
        refine ifF rfl ?_
        refine ⟨_, rfl, a, _, 0, _, rfl, rfl, SqT.of h0, rfl, rfl, _, rfl, ifF (no (by decide)) ?_⟩
        refine ⟨_, rfl, a, _, 0, _, rfl, rfl, SqT.of h0, rfl, rfl, _, rfl, ifF (no (by decide)) ?_⟩
        refine ⟨_, rfl, Nat.zero_le _, fun e0 ne => ?_⟩
        have sm := @Same.new e0 _ (.tup []) ne
        have h1 := sm t _ h
        have h01 := sm a _ h0
        have dx1 := dx.keep sm
        have dy1 := dy.keep sm
        have r1 := r.keep sm
        refine ⟨t, e0, xs, rfl, rfl, SqT.of h1, SqT.of upd_same, _, rfl, ?_⟩
        cases r1 with
        | nil =>
          refine ifT rfl ?_
          refine ⟨_, rfl, a, _, 0, _, rfl, rfl, SqT.of h01, rfl, rfl, _, rfl, ifF (no (by decide)) ?_⟩
          exact q _ sm
        | cons d0 r2 =>
          rename_i v0 vr de0 dr
          refine ifF rfl ?_
          obtain ⟨ty0, tyx0, _, _, _, k40⟩ := tyD (K := K) d0
          refine ⟨_, rfl, t, _, 0, _, rfl, rfl, SqT.of h1, atI_nat (j := 0) rfl, _, _, ty0, _, _, rfl, .ty _, tyx0, k40, _, rfl, ?_⟩
          cases hs : isStr de0 with
          | false =>
            refine iteT ?_
            have := q _ sm
            rwa [isV_eithS hs] at this
          | true =>
            refine iteF ?_
            obtain ⟨p, rfl⟩ : ∃ p, de0 = .str p := by
              cases de0 <;> first | exact ⟨_, rfl⟩ | cases hs
            have ev := d0.strI
            subst ev
            refine ⟨_, rfl, a, _, 0, _, rfl, rfl, SqT.of h01, rfl, rfl, _, rfl, ifF (no (by decide)) ?_⟩
            have ll := r2.length
            refine ⟨_, rfl, _, _, rfl, .inr ⟨_, SqT.of h1, rfl⟩, rfl, _, rfl, ite2 (fun g => ?_) (fun g => ?_)⟩
            · refine iteT ?_
              have := q _ sm
              rwa [isV_eithL] at this
              intro z
              have g' : ¬ V.int ((((V.str p) :: vr).length : Nat) : Int) = V.int 2 := by simpa using g
              apply g'
              rw [List.length_cons] at z ⊢
              rw [ll, z]
              rfl
            · have g' : V.int ((((V.str p) :: vr).length : Nat) : Int) = V.int 2 := by simpa using g
              have l3 : vr.length = 1 := by
                have := V.int.inj g'
                rw [List.length_cons] at this
                omega
              match vr, dr, r2, l3, h1, ll with
              | [v1], [d1], .cons e1 .nil, _, h1, _ =>
                have sp := hsz.parts
                refine ⟨_, rfl, t, _, 0, _, rfl, rfl, SqT.of h1, rfl, big _ (by decide), fun t2 nt2 => ?_⟩
                have sm2 := @Same.new t2 _ (.tup [.str "left", .str "right"]) nt2
                have fin := fun H' (s : Same _ H') => q H' (sm.trans (sm2.trans s))
                rw [show isV (.eith x y) (.tuple [.str p, d1]) = (if p = "left" then isV x d1 else decide (p = "right") && isV y d1) by simp only [isV]] at fin
                have h12 := sm2 t _ h1
                have h02 := sm2 a _ h01
                by_cases pl : p = "left"
                · subst pl
                  rw [if_pos rfl] at fin
                  refine ⟨t2, _, rfl, .inr (SqT.of upd_same), rfl, rfl, _, rfl, ifF rfl ?_⟩
                  refine ⟨_, rfl, t, _, 0, _, rfl, rfl, SqT.of h12, rfl, rfl, _, rfl, ifT (decide_eq_true rfl) ?_⟩
                  refine ⟨_, rfl, a, _, 1, _, rfl, rfl, SqT.of h02, rfl, _, rfl, t, _, 1, _, rfl, rfl, SqT.of h12, rfl, ?_⟩
                  exact hR m rfl _ _ _ ⟨Fa, vx, v1, x, d1, mm, rfl, dx1.keep sm2, e1.keep sm2, by omega, clx, nfx, sp.all d1 (List.mem_cons_of_mem _ List.mem_cons_self), fun H2 s2 => fin H2 s2⟩
                · rw [if_neg pl] at fin
                  by_cases pr : p = "right"
                  · subst pr
                    rw [decide_eq_true rfl, Bool.true_and] at fin
                    refine ⟨t2, _, rfl, .inr (SqT.of upd_same), rfl, rfl, _, rfl, ifF rfl ?_⟩
                    refine ⟨_, rfl, t, _, 0, _, rfl, rfl, SqT.of h12, rfl, rfl, _, rfl, ifF (no (by decide)) ?_⟩
                    refine ⟨_, rfl, a, _, 2, _, rfl, rfl, SqT.of h02, rfl, _, rfl, t, _, 1, _, rfl, rfl, SqT.of h12, rfl, ?_⟩
                    exact hR m rfl _ _ _ ⟨Fa, vy, v1, y, d1, mm, rfl, dy1.keep sm2, e1.keep sm2, by omega, cly, nfy, sp.all d1 (List.mem_cons_of_mem _ List.mem_cons_self), fun H2 s2 => fin H2 s2⟩
                  · have e : (!inV (V.str p) [V.str "left", V.str "right"]) = true := by
                      have e1 : (("left" : Str) == p) = false := beq_eq_false_iff_ne.mpr fun z => pl z.symm
                      have e2 : (("right" : Str) == p) = false := beq_eq_false_iff_ne.mpr fun z => pr z.symm
                      show (!((("left" : Str) == p) || ((("right" : Str) == p) || false))) = true
                      rw [e1, e2]
                      rfl
                    refine ⟨t2, _, rfl, .inr (SqT.of upd_same), rfl, rfl, _, rfl, ifT e ?_⟩
                    have := fin _ (Same.refl _)
                    rwa [decide_eq_false pr, Bool.false_and] at this
      | non => exact iteT (by have := q H (Same.refl H); rwa [isV_notup (by intro z; cases z) rfl] at this)
      | bl b => exact iteT (by have := q H (Same.refl H); rwa [isV_notup (by intro z; cases z) rfl] at this)
      | int i => exact iteT (by have := q H (Same.refl H); rwa [isV_notup (by intro z; cases z) rfl] at this)
      | str x => exact iteT (by have := q H (Same.refl H); rwa [isV_notup (by intro z; cases z) rfl] at this)
      | lst f h r => exact iteT (by have := q H (Same.refl H); rwa [isV_notup (by intro z; cases z) rfl] at this)
      | emp f h => exact iteT (by have := q H (Same.refl H); rwa [isV_notup (by intro z; cases z) rfl] at this)
theorem ok_isv {f : Addr} {fd : FuncData} (F : FnP K "_law_is_value" (top 36) f fd) (T : Bl K mg) (gR : mg "_law_is_value" = some (.ref f)) (bR : Binds K fd ["_law_kind_here", "_law_thing"] []) : ∀ n : Nat, FnOk P w K mg base CX0 (n + 1) f fd ["_law_kind_here", "_law_thing"] (spIsV n)
  | 0 => isv_body 0 (spR := fun _ _ _ _ => False) F T gR bR ⟨fun _ _ _ _ h => h.elim, fun _ _ _ _ _ _ _ _ _ _ _ _ _ h => h.elim⟩ fun m e => by cases e
  | n + 1 => isv_body (n + 1) F T gR bR (ok_isv F T gR bR n) fun m e => by cases e; exact fun _ _ _ h => h
end
end K3
namespace KB
open PySem L2 PySem.Spec PyProof.Rows
theorem for_zipM {K : PySem.W.Frag} {a b : Addr} {xs ys : List V} {g : TG} {tb : TS} {D : Ends} {σ : L2.St} {H : Hp} (Pv : Nat → L2.St → Hp → Prop) (h0 : Pv 0 σ H) (hq : ∀ i σ H, Pv i σ H → SqT K H a xs ∧ SqT K H b ys)
    (hs : ∀ (i : Nat) (x y : V) (T : Addr) (σ : L2.St) (H : Hp), xs[i]? = some x → ys[i]? = some y → Pv i σ H → H T = none → g (.ref T) σ (upd H T (.tup [x, y])) fun σ2 H2 => tb { D with nx := Pv (i + 1), ct := Pv (i + 1), bk := D.nx } σ2 H2)
    (hd : ∀ i σ H, (xs.length ≤ i ∨ ys.length ≤ i) → i ≤ xs.length → i ≤ ys.length → Pv i σ H → D.nx σ H) : ∃ W : Nat → Nat → L2.St → Hp → Prop, (∃ m, W 0 m σ H) ∧ ∀ i m σ H, W i m σ H →
      ((RZ.ItzT K a b).stop i H ∧ D.nx σ H) ∨ ((RZ.ItzT K a b).go i H ∧ ∃ N : L2.St → Hp → Prop, (∀ σ' H', N σ' H' → ∃ m', m' < m ∧ W (i + 1) m' σ' H') ∧ ∀ v H', (RZ.ItzT K a b).yld i H v H' → g v σ H' fun σ2 H2 => tb { D with nx := N, ct := N, bk := D.nx } σ2 H2) := by
  refine ⟨fun i m σ H => m = xs.length - i ∧ (i ≤ xs.length ∧ i ≤ ys.length) ∧ Pv i σ H, ⟨xs.length, rfl, ⟨Nat.zero_le _, Nat.zero_le _⟩, h0⟩, ?_⟩
  rintro i m σ H ⟨rfl, ⟨hx, hy⟩, p⟩
  obtain ⟨qx, qy⟩ := hq i σ H p
  by_cases lx : i < xs.length
  · by_cases ly : i < ys.length
    · refine .inr ⟨⟨xs, ys, _, _, qx, qy, List.getElem?_eq_getElem lx, List.getElem?_eq_getElem ly⟩, Pv (i + 1), fun σ' H' p' => ⟨xs.length - (i + 1), by omega, rfl, ⟨lx, ly⟩, p'⟩, fun v H' z => ?_⟩
      obtain ⟨T, x', y', rfl, hT, rfl, f1, f2⟩ := z; exact hs i x' y' T σ H (f1 xs qx) (f2 ys qy) p hT
    · have e : ys.length ≤ i := by omega
      exact .inl ⟨⟨xs, ys, qx, qy, .inr e⟩, hd i σ H (.inr e) hx hy p⟩
  · have e : xs.length ≤ i := by omega
    exact .inl ⟨⟨xs, ys, qx, qy, .inl e⟩, hd i σ H (.inl e) hx hy p⟩
/-! ### the order of two values of a kind -/
def sg (i j : Int) : Int := (if j < i then 1 else 0) - (if i < j then 1 else 0)
theorem sg_dec (i j : Int) : sg i j = (if decide (j < i) = true then 1 else 0) - (if decide (i < j) = true then 1 else 0) := by
  unfold sg
  simp only [decide_eq_true_eq]
inductive Cm : Kd → PyData → PyData → Int → Prop
  | unit : Cm .unit (.tuple []) (.tuple []) 0
  | num (i j : Int) : Cm .num (.int i) (.int j) (sg i j)
  | pairN {a b : Kd} {x y x' y' : PyData} {r : Int} (h : Cm a x x' r) (n : r ≠ 0) : Cm (.pair a b) (.tuple [.str "pair", x, y]) (.tuple [.str "pair", x', y']) r
  | pairE {a b : Kd} {x y x' y' : PyData} {r : Int} (h : Cm a x x' 0) (h2 : Cm b y y' r) : Cm (.pair a b) (.tuple [.str "pair", x, y]) (.tuple [.str "pair", x', y']) r
  | left {a b : Kd} {x x' : PyData} {r : Int} (h : Cm a x x' r) : Cm (.eith a b) (.tuple [.str "left", x]) (.tuple [.str "left", x']) r
  | right {a b : Kd} {x x' : PyData} {r : Int} (h : Cm b x x' r) : Cm (.eith a b) (.tuple [.str "right", x]) (.tuple [.str "right", x']) r
  | leftRight {a b : Kd} {x x' : PyData} : Cm (.eith a b) (.tuple [.str "left", x]) (.tuple [.str "right", x']) (-1)
  | rightLeft {a b : Kd} {x x' : PyData} : Cm (.eith a b) (.tuple [.str "right", x]) (.tuple [.str "left", x']) 1
  | lstN {a : Kd} {xs ys : List PyData} {i : Nat} {x y : PyData} {r : Int} (hx : xs[i]? = some x) (hy : ys[i]? = some y) (pre : ∀ (j : Nat) (x' y' : PyData), j < i → xs[j]? = some x' → ys[j]? = some y' → Cm a x' y' 0) (h : Cm a x y r) (n : r ≠ 0) :
      Cm (.lst a) (.tuple xs) (.tuple ys) r
  | lstE {a : Kd} {xs ys : List PyData} (pre : ∀ (j : Nat) (x' y' : PyData), xs[j]? = some x' → ys[j]? = some y' → Cm a x' y' 0) : Cm (.lst a) (.tuple xs) (.tuple ys) (sg xs.length ys.length)
/-- the law's own order(kind, one, two) -/
def spOrd (n : Nat) : Sp := fun vs H Q _ => ∃ (F : Addr → Prop) (kv ov tv : V) (k : Kd) (d e : PyData) (N : Nat), vs = [kv, ov, tv] ∧ Dt F H kv k.d ∧ Dt F H ov d ∧ Dt F H tv e ∧ k.dep ≤ n ∧ k.closed = true ∧ k.noFn = true ∧ VV N k d ∧ VV N k e ∧
  ∀ (r : Int) (H' : Hp), Cm k d e r → Same H H' → Q (.int r) H'
end KB
namespace K3
open PySem PySem.Spec PyProof.Rows L2 KB
section
variable {K : PySem.W.Frag} {mg : Str → Option Value} {base : Heap} {P : Program} {w : World}
abbrev nOrd : List Str := ["_law_kind_here", "_law_one", "_law_two", "_law_found", "_law_here", "_law_there"]
theorem scOrd : FnScope nOrd ["_law_kind_here", "_law_one", "_law_two"] (defScope (top 37)) := ⟨rfl, rfl, rfl, by decide +kernel, rfl, by decide +kernel, by decide +kernel⟩
theorem ord_body (n : Nat) {f : Addr} {fd : FuncData} {spR : Sp} (F : FnP K "_law_order" (top 37) f fd) (T : Bl K mg)
    (gR : mg "_law_order" = some (.ref f)) (bR : Binds K fd ["_law_kind_here", "_law_one", "_law_two"] []) (GR : FnOk P w K mg base CX0 n f fd ["_law_kind_here", "_law_one", "_law_two"] spR)
    (hR : ∀ m, n = m + 1 → ∀ vs H Q, spOrd m vs H Q E0 → spR vs H Q E0) : FnOk P w K mg base CX0 (n + 1) f fd ["_law_kind_here", "_law_one", "_law_two"] (spOrd n) := by
  refine F.ok scOrd (fun vs H Q E h => ?_) (fun cdv A outer s H vs Q E hr h => ?_)
  · obtain ⟨F, kv, ov, tv, k, d, e, N, rfl, _⟩ := h
    rfl
  · obtain ⟨Fa, kv, ov, tv, k, d, e, N, rfl, hk, hd, he, hdp, hcl, hnf, vd, ve, q⟩ := h
    have sc := scOrd
    have hrR : Room n _ := hr
    refine ⟨_, PSs.nox (pss_cons (ps_if (pt_cmpR op_eq (pe_ix ix_tup (pv 0) pe_int (fun _ _ => rfl)) pe_str (nomark _)) (pss_one (ps_ret pe_int)) pss_nil) (pss_cons (ps_if (pt_cmpR op_eq (pe_ix ix_tup (pv 0) pe_int (fun _ _ => rfl)) pe_str (nomark _)) (pss_one (ps_ret (pe_op op_sub (pe_callTy call_int1 (by rfl) T.int (by decide +kernel) (pa_cons (pe_cmpR op_gt (pv 1) (pv 2) (nomark _)) pa_nil)) (pe_callTy call_int1 (by rfl) T.int (by decide +kernel) (pa_cons (pe_cmpR op_lt (pv 1) (pv 2) (nomark _)) pa_nil))))) pss_nil) (pss_cons (ps_if (pt_cmpR op_eq (pe_ix ix_tup (pv 0) pe_int (fun _ _ => rfl)) pe_str (nomark _)) (pss_cons (ps_set (i := 3) sc.nd rfl (Or.inl rfl) (pe_call GR hrR rfl gR F.kp bR .nil pass0 (pa_cons (pe_ix ix_tup (pv 0) pe_int (fun _ _ => rfl)) (pa_cons (pe_ix ix_tup (pv 1) pe_int (fun _ _ => rfl)) (pa_cons (pe_ix ix_tup (pv 2) pe_int (fun _ _ => rfl)) pa_nil))))) (pss_one (ps_ret (pe_ifExp (pt_cmpR op_ne (pv 3) pe_int (nomark _)) (pv 3) (pe_call GR hrR rfl gR F.kp bR .nil pass0 (pa_cons (pe_ix ix_tup (pv 0) pe_int (fun _ _ => rfl)) (pa_cons (pe_ix ix_tup (pv 1) pe_int (fun _ _ => rfl)) (pa_cons (pe_ix ix_tup (pv 2) pe_int (fun _ _ => rfl)) pa_nil)))))))) pss_nil) (pss_cons (ps_if (pt_cmpR op_eq (pe_ix ix_tup (pv 0) pe_int (fun _ _ => rfl)) pe_str (nomark _)) (pss_cons (ps_if (pt_cmpR op_ne (pe_ix ix_tup (pv 1) pe_int (fun _ _ => rfl)) (pe_ix ix_tup (pv 2) pe_int (fun _ _ => rfl)) (nomark _)) (pss_one (ps_ret (pe_ifExp (pt_cmpR op_eq (pe_ix ix_tup (pv 1) pe_int (fun _ _ => rfl)) pe_str (nomark _)) (pe_un un_neg pe_int) pe_int))) pss_nil) (pss_one (ps_ret (pe_call GR hrR rfl gR F.kp bR .nil pass0 (pa_cons (pe_ifExp (pt_cmpR op_eq (pe_ix ix_tup (pv 1) pe_int (fun _ _ => rfl)) pe_str (nomark _)) (pe_ix ix_tup (pv 0) pe_int (fun _ _ => rfl)) (pe_ix ix_tup (pv 0) pe_int (fun _ _ => rfl))) (pa_cons (pe_ix ix_tup (pv 1) pe_int (fun _ _ => rfl)) (pa_cons (pe_ix ix_tup (pv 2) pe_int (fun _ _ => rfl)) pa_nil))))))) pss_nil) (pss_cons (ps_for PassesOwn.never rfl (RZ.pi_zipA rfl T.zip (pa_cons (pv 1) (pa_cons (pv 2) pa_nil))) (pg_tup rfl (pgs_cons (pg_name (i := 4) sc.nd rfl (Or.inl rfl)) (pgs_cons (pg_name (i := 5) sc.nd rfl (Or.inl rfl)) pgs_nil))) (pss_cons (ps_set (i := 3) sc.nd rfl (Or.inl rfl) (pe_call GR hrR rfl gR F.kp bR .nil pass0 (pa_cons (pe_ix ix_tup (pv 0) pe_int (fun _ _ => rfl)) (pa_cons (pv 4) (pa_cons (pv 5) pa_nil))))) (pss_one (ps_if (pt_cmpR op_ne (pv 3) pe_int (nomark _)) (pss_one (ps_ret (pv 3))) pss_nil)))) (pss_one (ps_ret (pe_op op_sub (pe_callTy call_int1 (by rfl) T.int (by decide +kernel) (pa_cons (pe_cmpR op_gt (pe_callB call_len (by rfl) T.len (by decide +kernel) (pa_cons (pv 1) pa_nil)) (pe_callB call_len (by rfl) T.len (by decide +kernel) (pa_cons (pv 2) pa_nil)) (nomark _)) pa_nil)) (pe_callTy call_int1 (by rfl) T.int (by decide +kernel) (pa_cons (pe_cmpR op_lt (pe_callB call_len (by rfl) T.len (by decide +kernel) (pa_cons (pv 1) pa_nil)) (pe_callB call_len (by rfl) T.len (by decide +kernel) (pa_cons (pv 2) pa_nil)) (nomark _)) pa_nil)))))))))), ?_⟩
    have big : ∀ k : Nat, k ≤ 1000 → k ≤ sizeLine := fun k h => Nat.le_of_lt (small1000 h)
    obtain ⟨a, rfl, fa, ka⟩ := kd_at hk
    have no : ∀ {x y : Str}, x ≠ y → decide (V.str x = V.str y) = false := fun h => decide_eq_false fun z => h (V.str.inj z)
    cases vd with
    | unit =>
      cases ve with
      | unit => exact ⟨_, rfl, a, _, 0, _, rfl, rfl, SqT.of ka, rfl, rfl, _, rfl, ifT (decide_eq_true rfl) (q 0 H .unit (Same.refl H))⟩
    | num i hi =>
      cases ve with
      | num j hj =>
        have e1 := hd.intI
        have e2 := he.intI
        subst e1 e2
        refine ⟨_, rfl, a, _, 0, _, rfl, rfl, SqT.of ka, rfl, rfl, _, rfl, ifF (no (by decide)) ?_⟩
        refine ⟨_, rfl, a, _, 0, _, rfl, rfl, SqT.of ka, rfl, rfl, _, rfl, ifT (decide_eq_true rfl) ?_⟩
        refine ⟨_, rfl, _, rfl, _, _, rfl, rfl, .inr ⟨_, rfl, _, rfl, _, rfl, _, _, rfl, rfl, .inr ⟨_, rfl, _, _, rfl, rfl, ?_⟩⟩⟩
        have := q _ H (.num i j) (Same.refl H)
        rwa [sg_dec] at this
    | @pair kx ky x y hx hy =>
      obtain ⟨m, rfl⟩ : ∃ m, n = m + 1 := ⟨n - 1, by have : max kx.dep ky.dep + 1 ≤ n := hdp; omega⟩
      have hdp' : max kx.dep ky.dep + 1 ≤ m + 1 := hdp
      obtain ⟨vx, vy, h0, dx, dy⟩ := ka
      obtain ⟨clx, cly⟩ := Bool.and_eq_true_iff.mp (show (kx.closed && ky.closed) = true from hcl)
      obtain ⟨nfx, nfy⟩ := Bool.and_eq_true_iff.mp (show (kx.noFn && ky.noFn) = true from hnf)
      refine ⟨_, rfl, a, _, 0, _, rfl, rfl, SqT.of h0, rfl, rfl, _, rfl, ifF (no (by decide)) ?_⟩
      refine ⟨_, rfl, a, _, 0, _, rfl, rfl, SqT.of h0, rfl, rfl, _, rfl, ifF (no (by decide)) ?_⟩
      cases ve with
      | @pair _ _ x' y' hx' hy' =>
        obtain ⟨o, os, rfl, fo, ho, ro⟩ := hd.tupI
        obtain ⟨o0, o1, o2, rfl, q0, q1, q2⟩ := ro.three
        obtain ⟨t, ts, rfl, ft, ht, rt⟩ := he.tupI
        obtain ⟨t0, t1, t2, rfl, p0, p1, p2⟩ := rt.three
        refine ⟨_, rfl, a, _, 0, _, rfl, rfl, SqT.of h0, rfl, rfl, _, rfl, ifT (decide_eq_true rfl) ?_⟩
        refine ⟨_, rfl, a, _, 1, _, rfl, rfl, SqT.of h0, rfl, _, rfl, o, _, 1, _, rfl, rfl, SqT.of ho, rfl, _, rfl, t, _, 1, _, rfl, rfl, SqT.of ht, rfl, ?_⟩
        refine hR m rfl _ _ _ ⟨Fa, vx, o1, t1, kx, x, x', N, rfl, dx, q1, p1, by omega, clx, nfx, hx, hx', fun r H2 cm s2 => ?_⟩
        refine ⟨_, rfl, rfl, _, rfl, ite2 (fun g => ?_) (fun g => ?_)⟩
        · have n0 : r ≠ 0 := by
            intro z
            subst z
            exact absurd g (by decide)
          exact ⟨_, rfl, q r H2 (.pairN cm n0) s2⟩
        · have n0 : r = 0 := by
            by_cases z : r = 0
            · exact z
            · exact absurd (show (!decide (V.int r = V.int 0)) = true by rw [decide_eq_false fun y => z (V.int.inj y)]; rfl) g
          subst n0
          refine ⟨_, rfl, a, _, 2, _, rfl, rfl, SqT.of (s2 a _ h0), rfl, _, rfl, o, _, 2, _, rfl, rfl, SqT.of (s2 o _ ho), rfl, _, rfl, t, _, 2, _, rfl, rfl, SqT.of (s2 t _ ht), rfl, ?_⟩
          exact hR m rfl _ _ _ ⟨Fa, vy, o2, t2, ky, y, y', N, rfl, dy.keep s2, q2.keep s2, p2.keep s2, by omega, cly, nfy, hy, hy', fun r3 H3 cm3 s3 => q r3 H3 (.pairE cm cm3) (s2.trans s3)⟩
    | @left kx ky x hx =>
      obtain ⟨m, rfl⟩ : ∃ m, n = m + 1 := ⟨n - 1, by have : max kx.dep ky.dep + 1 ≤ n := hdp; omega⟩
      have hdp' : max kx.dep ky.dep + 1 ≤ m + 1 := hdp
      obtain ⟨vx, vy, h0, dx, dy⟩ := ka
      obtain ⟨clx, cly⟩ := Bool.and_eq_true_iff.mp (show (kx.closed && ky.closed) = true from hcl)
      obtain ⟨nfx, nfy⟩ := Bool.and_eq_true_iff.mp (show (kx.noFn && ky.noFn) = true from hnf)
      refine ⟨_, rfl, a, _, 0, _, rfl, rfl, SqT.of h0, rfl, rfl, _, rfl, ifF (no (by decide)) ?_⟩
      refine ⟨_, rfl, a, _, 0, _, rfl, rfl, SqT.of h0, rfl, rfl, _, rfl, ifF (no (by decide)) ?_⟩
      cases ve with
      | @left _ _ x' hx' =>
        obtain ⟨o, os, rfl, fo, ho, ro⟩ := hd.tupI
        obtain ⟨o0, o1, rfl, q0, q1⟩ := ro.two
        obtain ⟨t, ts, rfl, ft, ht, rt⟩ := he.tupI
        obtain ⟨t0, t1, rfl, p0, p1⟩ := rt.two
        have z1 := q0.strI
        have z2 := p0.strI
        subst z1 z2
        refine ⟨_, rfl, a, _, 0, _, rfl, rfl, SqT.of h0, rfl, rfl, _, rfl, ifF (no (by decide)) ?_⟩
        refine ⟨_, rfl, a, _, 0, _, rfl, rfl, SqT.of h0, rfl, rfl, _, rfl, ifT (decide_eq_true rfl) ?_⟩
        refine ⟨_, rfl, o, _, 0, _, rfl, rfl, SqT.of ho, rfl, _, rfl, t, _, 0, _, rfl, rfl, SqT.of ht, rfl, rfl, _, rfl, ifF (by decide) ?_⟩
        refine ⟨_, rfl, o, _, 0, _, rfl, rfl, SqT.of ho, rfl, rfl, _, rfl, ifT (decide_eq_true rfl) ?_⟩
        refine ⟨_, rfl, a, _, 1, _, rfl, rfl, SqT.of h0, rfl, _, rfl, o, _, 1, _, rfl, rfl, SqT.of ho, rfl, _, rfl, t, _, 1, _, rfl, rfl, SqT.of ht, rfl, ?_⟩
        exact hR m rfl _ _ _ ⟨Fa, vx, o1, t1, kx, x, x', N, rfl, dx, q1, p1, by omega, clx, nfx, hx, hx', fun r H2 cm s2 => q r H2 (.left cm) s2⟩
      | @right _ _ x' hx' =>
        obtain ⟨o, os, rfl, fo, ho, ro⟩ := hd.tupI
        obtain ⟨o0, o1, rfl, q0, q1⟩ := ro.two
        obtain ⟨t, ts, rfl, ft, ht, rt⟩ := he.tupI
        obtain ⟨t0, t1, rfl, p0, p1⟩ := rt.two
        have z1 := q0.strI
        have z2 := p0.strI
        subst z1 z2
        refine ⟨_, rfl, a, _, 0, _, rfl, rfl, SqT.of h0, rfl, rfl, _, rfl, ifF (no (by decide)) ?_⟩
        refine ⟨_, rfl, a, _, 0, _, rfl, rfl, SqT.of h0, rfl, rfl, _, rfl, ifT (decide_eq_true rfl) ?_⟩
        refine ⟨_, rfl, o, _, 0, _, rfl, rfl, SqT.of ho, rfl, _, rfl, t, _, 0, _, rfl, rfl, SqT.of ht, rfl, rfl, _, rfl, ifT (by decide) ?_⟩
        refine ⟨_, rfl, o, _, 0, _, rfl, rfl, SqT.of ho, rfl, rfl, _, rfl, ifT (decide_eq_true rfl) ?_⟩
        exact ⟨_, rfl, q (-1) H .leftRight (Same.refl H)⟩
    | @right kx ky x hx =>
      obtain ⟨m, rfl⟩ : ∃ m, n = m + 1 := ⟨n - 1, by have : max kx.dep ky.dep + 1 ≤ n := hdp; omega⟩
      have hdp' : max kx.dep ky.dep + 1 ≤ m + 1 := hdp
      obtain ⟨vx, vy, h0, dx, dy⟩ := ka
      obtain ⟨clx, cly⟩ := Bool.and_eq_true_iff.mp (show (kx.closed && ky.closed) = true from hcl)
      obtain ⟨nfx, nfy⟩ := Bool.and_eq_true_iff.mp (show (kx.noFn && ky.noFn) = true from hnf)
      refine ⟨_, rfl, a, _, 0, _, rfl, rfl, SqT.of h0, rfl, rfl, _, rfl, ifF (no (by decide)) ?_⟩
      refine ⟨_, rfl, a, _, 0, _, rfl, rfl, SqT.of h0, rfl, rfl, _, rfl, ifF (no (by decide)) ?_⟩
      cases ve with
      | @right _ _ x' hx' =>
        obtain ⟨o, os, rfl, fo, ho, ro⟩ := hd.tupI
        obtain ⟨o0, o1, rfl, q0, q1⟩ := ro.two
        obtain ⟨t, ts, rfl, ft, ht, rt⟩ := he.tupI
        obtain ⟨t0, t1, rfl, p0, p1⟩ := rt.two
        have z1 := q0.strI
        have z2 := p0.strI
        subst z1 z2
        refine ⟨_, rfl, a, _, 0, _, rfl, rfl, SqT.of h0, rfl, rfl, _, rfl, ifF (no (by decide)) ?_⟩
        refine ⟨_, rfl, a, _, 0, _, rfl, rfl, SqT.of h0, rfl, rfl, _, rfl, ifT (decide_eq_true rfl) ?_⟩
        refine ⟨_, rfl, o, _, 0, _, rfl, rfl, SqT.of ho, rfl, _, rfl, t, _, 0, _, rfl, rfl, SqT.of ht, rfl, rfl, _, rfl, ifF (by decide) ?_⟩
        refine ⟨_, rfl, o, _, 0, _, rfl, rfl, SqT.of ho, rfl, rfl, _, rfl, ifF (no (by decide)) ?_⟩
        refine ⟨_, rfl, a, _, 2, _, rfl, rfl, SqT.of h0, rfl, _, rfl, o, _, 1, _, rfl, rfl, SqT.of ho, rfl, _, rfl, t, _, 1, _, rfl, rfl, SqT.of ht, rfl, ?_⟩
        exact hR m rfl _ _ _ ⟨Fa, vy, o1, t1, ky, x, x', N, rfl, dy, q1, p1, by omega, cly, nfy, hx, hx', fun r H2 cm s2 => q r H2 (.right cm) s2⟩
      | @left _ _ x' hx' =>
        obtain ⟨o, os, rfl, fo, ho, ro⟩ := hd.tupI
        obtain ⟨o0, o1, rfl, q0, q1⟩ := ro.two
        obtain ⟨t, ts, rfl, ft, ht, rt⟩ := he.tupI
        obtain ⟨t0, t1, rfl, p0, p1⟩ := rt.two
        have z1 := q0.strI
        have z2 := p0.strI
        subst z1 z2
        refine ⟨_, rfl, a, _, 0, _, rfl, rfl, SqT.of h0, rfl, rfl, _, rfl, ifF (no (by decide)) ?_⟩
        refine ⟨_, rfl, a, _, 0, _, rfl, rfl, SqT.of h0, rfl, rfl, _, rfl, ifT (decide_eq_true rfl) ?_⟩
        refine ⟨_, rfl, o, _, 0, _, rfl, rfl, SqT.of ho, rfl, _, rfl, t, _, 0, _, rfl, rfl, SqT.of ht, rfl, rfl, _, rfl, ifT (by decide) ?_⟩
        refine ⟨_, rfl, o, _, 0, _, rfl, rfl, SqT.of ho, rfl, rfl, _, rfl, ifF (no (by decide)) ?_⟩
        exact q 1 H .rightLeft (Same.refl H)
    | @lst kx xs hl hx =>
      obtain ⟨m, rfl⟩ : ∃ m, n = m + 1 := ⟨n - 1, by have : kx.dep + 1 ≤ n := hdp; omega⟩
      have hdp' : kx.dep + 1 ≤ m + 1 := hdp
      obtain ⟨vx, h0, dx⟩ := ka
      cases ve with
      | @lst _ ys hl' hx' =>
        obtain ⟨o, os, rfl, fo, ho, ro⟩ := hd.tupI
        obtain ⟨t, ts, rfl, ft, ht, rt⟩ := he.tupI
        have lo := ro.length
        have lt := rt.length
        refine ⟨_, rfl, a, _, 0, _, rfl, rfl, SqT.of h0, rfl, rfl, _, rfl, ifF (no (by decide)) ?_⟩
        refine ⟨_, rfl, a, _, 0, _, rfl, rfl, SqT.of h0, rfl, rfl, _, rfl, ifF (no (by decide)) ?_⟩
        refine ⟨_, rfl, a, _, 0, _, rfl, rfl, SqT.of h0, rfl, rfl, _, rfl, ifF (no (by decide)) ?_⟩
        refine ⟨_, rfl, a, _, 0, _, rfl, rfl, SqT.of h0, rfl, rfl, _, rfl, ifF (no (by decide)) ?_⟩
        refine ⟨_, rfl, _, rfl, o, t, os, ts, rfl, .inr ⟨SqT.of ho, SqT.of ht, for_zipM (K := K) (a := o) (b := t) (xs := os) (ys := ts) (fun i σ H2 => ∃ u3 u4 u5 : Option V, σ = [some (.ref a), some (.ref o), some (.ref t), u3, u4, u5] ∧ Same H H2 ∧
          ∀ (j : Nat) (x' y' : PyData), j < i → xs[j]? = some x' → ys[j]? = some y' → Cm kx x' y' 0) ⟨none, none, none, rfl, Same.refl H, fun j _ _ h => absurd h (Nat.not_lt_zero j)⟩ ?_ ?_ ?_⟩⟩
        · rintro i σ H2 ⟨_, _, _, _, sm, _⟩
          exact ⟨SqT.of (sm o _ ho), SqT.of (sm t _ ht)⟩
        · rintro i u v TT σ H2 eu ev ⟨u3, u4, u5, rfl, sm, pre⟩ nT
          obtain ⟨du, hdu, dtu⟩ := ro.get eu
          obtain ⟨dv, hdv, dtv⟩ := rt.get ev
          have s2 := @Same.new TT _ (.tup [u, v]) nT
          have sm2 := sm.trans s2
          refine ⟨TT, _, rfl, SqT.of upd_same, rfl, _, _, rfl, _, _, rfl, rfl, ?_⟩
          refine ⟨_, rfl, a, _, 1, _, rfl, rfl, SqT.of (sm2 a _ h0), rfl, _, rfl, _, rfl, ?_⟩
          refine hR m rfl _ _ _ ⟨Fa, vx, u, v, kx, du, dv, N, rfl, dx.keep sm2, dtu.keep sm2, dtv.keep sm2, by omega, hcl, hnf, hx _ (List.mem_of_getElem? hdu), hx' _ (List.mem_of_getElem? hdv), fun r H3 cm s3 => ?_⟩
          refine ⟨_, rfl, rfl, _, rfl, ite2 (fun g => ?_) (fun g => ?_)⟩
          · have n0 : r ≠ 0 := by
              intro z
              subst z
              exact absurd g (by decide)
            exact ⟨_, rfl, q r H3 (.lstN hdu hdv pre cm n0) (sm2.trans s3)⟩
          · have n0 : r = 0 := by
              by_cases z : r = 0
              · exact z
              · exact absurd (show (!decide (V.int r = V.int 0)) = true by rw [decide_eq_false fun y => z (V.int.inj y)]; rfl) g
            subst n0
            refine ⟨_, _, _, rfl, sm2.trans s3, fun j x' y' hj e1 e2 => ?_⟩
            by_cases z : j = i
            · subst z
              rw [hdu] at e1
              rw [hdv] at e2
              cases e1
              cases e2
              exact cm
            · exact pre j x' y' (by omega) e1 e2
        · rintro i σ H2 hend hx1 hy1 ⟨u3, u4, u5, rfl, sm, pre⟩
          refine ⟨_, rfl, _, _, rfl, .inr ⟨_, SqT.of (sm o _ ho), rfl⟩, _, rfl, _, _, rfl, .inr ⟨_, SqT.of (sm t _ ht), rfl⟩, _, _, rfl, rfl, .inr ⟨_, rfl, ?_⟩⟩
          refine ⟨_, rfl, _, _, rfl, .inr ⟨_, SqT.of (sm o _ ho), rfl⟩, _, rfl, _, _, rfl, .inr ⟨_, SqT.of (sm t _ ht), rfl⟩, _, _, rfl, rfl, .inr ⟨_, rfl, _, _, rfl, rfl, ?_⟩⟩
          have := q _ H2 (.lstE (a := kx) (xs := xs) (ys := ys) fun j x' y' e1 e2 => pre j x' y' (by
            have l1 := (List.getElem?_eq_some_iff.mp e1).1
            have l2 := (List.getElem?_eq_some_iff.mp e2).1
            omega) e1 e2) sm
          rw [sg_dec, ← lo, ← lt] at this
          exact this
theorem ok_ord {f : Addr} {fd : FuncData} (F : FnP K "_law_order" (top 37) f fd) (T : Bl K mg) (gR : mg "_law_order" = some (.ref f)) (bR : Binds K fd ["_law_kind_here", "_law_one", "_law_two"] []) : ∀ n : Nat, FnOk P w K mg base CX0 (n + 1) f fd ["_law_kind_here", "_law_one", "_law_two"] (spOrd n)
  | 0 => ord_body 0 (spR := fun _ _ _ _ => False) F T gR bR ⟨fun _ _ _ _ h => h.elim, fun _ _ _ _ _ _ _ _ _ _ _ _ _ h => h.elim⟩ fun m e => by cases e
  | n + 1 => ord_body (n + 1) F T gR bR (ok_ord F T gR bR n) fun m e => by cases e; exact fun _ _ _ h => h
end
end K3
namespace KB
open PySem L2 PySem.Spec PyProof.Rows
/-! ### a written dict whose keys are ints or texts -/
structure KI (P : Program) (w : World) (K : PySem.W.Frag) (d : Addr) (kvs : List (L2.Key × V)) : Prop where
  low : (d == sysModules) = Bool.false
  ex : ∃ vs, KV kvs vs ∧ ∀ h : Heap, K.In h → h.DictOf (mixKind P w) d vs
section
variable {X : Cx} {d : Addr} {kvs : List (L2.Key × V)}
/-- k not in d -/
theorem op_notIn_ki (D : KI X.prog X.w X.K d kvs) : OpR X (compareOp .NotIn) (fun x y H Q => ∃ k : L2.Key, x = kV k ∧ y = .ref d ∧ Q (.bl (!(valV kvs k).isSome)) H) := by
  intro pins s σ H x y v u Q I rx ry h; obtain ⟨k, rfl, rfl, q⟩ := h
  cases ry
  obtain ⟨vs, rel, dd⟩ := D.ex
  refine wpAny_notIn_of (kV_is rx) D.low (dd _ I.kIn).mapOf ?_
  rw [← (rel.val k).isSome_eq]
  exact ⟨.bl _, H, I.tok _, rfl, q⟩
/-- d[k] -/
theorem ix_ki (D : KI X.prog X.w X.K d kvs) : IxR X (fun x y H Q => ∃ (k : L2.Key) (r : V), x = .ref d ∧ y = kV k ∧ valV kvs k = some r ∧ Q r H) := by
  intro value slice pins s σ H x y v u Q I rx ry h hs; obtain ⟨k, r, rfl, rfl, l, q⟩ := h
  obtain rfl : v = Value.ref d := rx
  obtain ⟨vs, rel, dd⟩ := D.ex
  obtain ⟨w', hw, rw'⟩ := RelO.some_of (v := r) (o := valueAt vs k) (by rw [← l]; exact rel.val k)
  have hm := (dd _ I.kIn).mapOf
  exact tail_any hm.typeIs PySem.F.slot_dict_getitem.lookup (wpAny_getItem_of (kV_is ry) hm hw ⟨r, H, I.tok _, rw', q⟩) hs
end
/-- a tuple as a target within a comprehension -/
theorem pgT {X : Cx} {K : PySem.W.Frag} {es : List Expr} {k : Nat} {t : TGs} {n : Nat} {pos : Pos} (h : X.K = K) (hc : X.calm = true) (hg : PGs X es t)
    (hn : (assignEach es X.env).length = n := by rfl) (hst : (assignEach es X.env).findIdx? (·.1) = none := by rfl) : PG X (.Tuple es k pos) (gTup K n t) := by
  rw [← h]
  exact pg_tup hc hg hn hst
/-! ### one of some texts -/
def txB : PyData → List Str → Bool
  | .str x, xs => xs.contains x
  | _, _ => false
theorem inV_str (x : Str) (xs : List Str) : inV (.str x) (xs.map V.str) = xs.contains x := by
  induction xs with
  | nil => rfl
  | cons y ys ih =>
    have e : inV (.str x) ((y :: ys).map V.str) = ((y == x) || inV (.str x) (ys.map V.str)) := rfl
    rw [e, ih, List.contains_cons, Bool.beq_comm]
theorem flat_strs (xs : List Str) : (xs.map V.str).all flatV = true := by
  induction xs with
  | nil => rfl
  | cons y ys ih => exact ih
/-- is_text_of(value, texts) -/
def spTxt (K : PySem.W.Frag) : Sp := fun vs H Q _ => ∃ (F : Addr → Prop) (v : V) (t : Addr) (d : PyData) (xs : List Str), vs = [v, .ref t] ∧ Dt F H v d ∧ SqT K H t (xs.map V.str) ∧ Q (.bl (txB d xs)) H
end KB
namespace KB
open PySem L2 PySem.Spec PyProof.Rows
/-! ### what stands but for some places -/
def Kp (S : List Addr) (H H' : Hp) : Prop := ∀ b o, b ∉ S → H b = some o → H' b = some o
abbrev Ot (S : List Addr) : Addr → Prop := fun a => a ∉ S
section
variable {S : List Addr} {H H1 H2 : Hp} {v : V} {d : PyData} {vs : List V} {ds : List PyData} {b p : Addr} {o : HO}
theorem Kp.refl (S : List Addr) (H : Hp) : Kp S H H := fun _ _ _ h => h
theorem Kp.trans (x : Kp S H H1) (y : Kp S H1 H2) : Kp S H H2 := fun b o n h => y b o n (x b o n h)
theorem Kp.same (x : Same H H1) : Kp S H H1 := fun b o _ h => x b o h
theorem Kp.put (h : b ∈ S) : Kp S H (upd H b o) := fun c u n e => by
  rw [upd_ne (fun z => n (by rw [z]; exact h))]
  exact e
theorem Kp.new (h : H p = none) : Kp S H (upd H p o) := Kp.same (Same.new h)
theorem Kp.grow (x : Kp S H H1) : Kp (p :: S) H H1 := fun b o n h => x b o (fun z => n (List.mem_cons_of_mem _ z)) h
theorem Kp.thin (x : Kp (p :: S) H H1) (h : H p = none) : Kp S H H1 := fun b o n e => x b o (fun z => (List.mem_cons.mp z).elim (fun z => by rw [z, h] at e; cases e) n) e
theorem Kp.toSame (x : Kp [] H H1) : Same H H1 := fun b o h => x b o (fun z => nomatch z) h
theorem Dt.kp (h : Dt (Ot S) H v d) (k : Kp S H H1) : Dt (Ot S) H1 v d := h.move fun a o f e => ⟨f, k a o f e⟩
theorem DtA.kp (h : DtA (Ot S) H vs ds) (k : Kp S H H1) : DtA (Ot S) H1 vs ds := h.move fun a o f e => ⟨f, k a o f e⟩
theorem Dt.wide (h : Dt (Ot S) H v d) (n : H p = none) : Dt (Ot (p :: S)) H v d := h.move fun a o f e => ⟨fun z => (List.mem_cons.mp z).elim (fun z => by rw [z, n] at e; cases e) f, e⟩
theorem DtA.wide (h : DtA (Ot S) H vs ds) (n : H p = none) : DtA (Ot (p :: S)) H vs ds := h.move fun a o f e => ⟨fun z => (List.mem_cons.mp z).elim (fun z => by rw [z, n] at e; cases e) f, e⟩
theorem Dt.less (h : Dt (Ot (p :: S)) H v d) : Dt (Ot S) H v d := h.move fun a o f e => ⟨fun z => f (List.mem_cons_of_mem _ z), e⟩
theorem DtA.less (h : DtA (Ot (p :: S)) H vs ds) : DtA (Ot S) H vs ds := h.move fun a o f e => ⟨fun z => f (List.mem_cons_of_mem _ z), e⟩
theorem Dt.any {F : Addr → Prop} (h : Dt F H v d) : Dt (Ot []) H v d := h.move fun a o f e => ⟨fun z => (by cases z), e⟩
theorem DtA.any {F : Addr → Prop} (h : DtA F H vs ds) : DtA (Ot []) H vs ds := h.move fun a o f e => ⟨fun z => (by cases z), e⟩
/-- a new place is none of those that stand -/
theorem ot_new (hS : ∀ a ∈ S, H a ≠ none) : ∀ p, H p = none → Ot S p := fun p np z => hS p z np
theorem DtA.snoc : ∀ {ds : List PyData} {vs : List V} {d : PyData}, DtA (Ot S) H vs (ds ++ [d]) → ∃ ws x, vs = ws ++ [x] ∧ DtA (Ot S) H ws ds ∧ Dt (Ot S) H x d
  | [], _, _, h => by
    obtain ⟨x, rfl, hx⟩ := DtA.one h
    exact ⟨[], x, rfl, .nil, hx⟩
  | e :: ds, _, _, h => by
    rw [List.cons_append] at h
    cases h with
    | cons h r =>
      obtain ⟨ws, x, rfl, r', hx⟩ := DtA.snoc r
      exact ⟨_ :: ws, x, rfl, .cons h r', hx⟩
end
/-! ### a closed kind's word and its parts -/
def Kd.word : Kd → Str
  | num => "num"
  | unit => "unit"
  | var _ => "var"
  | lst _ => "list"
  | pair _ _ => "pair"
  | eith _ _ => "either"
  | fn _ _ => "fun"
def Kd.kids : Kd → List Kd
  | num => []
  | unit => []
  | var _ => []
  | lst a => [a]
  | pair a b => [a, b]
  | eith a b => [a, b]
  | fn a b => [a, b]
/-- how many kinds there are in it -/
def Kd.kz : Kd → Nat
  | num => 1
  | unit => 1
  | var _ => 1
  | lst a => a.kz + 1
  | pair a b => a.kz + b.kz + 1
  | eith a b => a.kz + b.kz + 1
  | fn a b => a.kz + b.kz + 1
theorem Kd.d_eq : ∀ {k : Kd}, k.closed = true → k.d = .tuple (.str k.word :: k.kids.map Kd.d)
  | num, _ => rfl
  | unit, _ => rfl
  | var _, h => by cases h
  | lst a, _ => rfl
  | pair a b, _ => rfl
  | eith a b, _ => rfl
  | fn a b, _ => rfl
theorem Kd.not_var : ∀ {k : Kd}, k.closed = true → k.word ≠ "var"
  | num, _ => by show ("num" : Str) ≠ "var"; decide
  | unit, _ => by show ("unit" : Str) ≠ "var"; decide
  | var _, h => by cases h
  | lst a, _ => by show ("list" : Str) ≠ "var"; decide
  | pair a b, _ => by show ("pair" : Str) ≠ "var"; decide
  | eith a b, _ => by show ("either" : Str) ≠ "var"; decide
  | fn a b, _ => by show ("fun" : Str) ≠ "var"; decide
theorem Kd.not_fun : ∀ {k : Kd}, k.noFn = true → k.word ≠ "fun"
  | num, _ => by show ("num" : Str) ≠ "fun"; decide
  | unit, _ => by show ("unit" : Str) ≠ "fun"; decide
  | var _, _ => by show ("var" : Str) ≠ "fun"; decide
  | lst a, _ => by show ("list" : Str) ≠ "fun"; decide
  | pair a b, _ => by show ("pair" : Str) ≠ "fun"; decide
  | eith a b, _ => by show ("either" : Str) ≠ "fun"; decide
  | fn a b, h => by cases h
theorem Kd.kids_ok : ∀ {k : Kd}, k.closed = true → k.noFn = true → ∀ x ∈ k.kids, x.closed = true ∧ x.noFn = true ∧ x.dep + 1 ≤ k.dep
  | num, _, _ => fun x h => by cases h
  | unit, _, _ => fun x h => by cases h
  | var _, _, _ => fun x h => by cases h
  | lst a, c, n => fun x h => by
    rw [List.mem_singleton.mp h]
    exact ⟨c, n, Nat.le_refl _⟩
  | pair a b, c, n => fun x h => by
    obtain ⟨c1, c2⟩ := Bool.and_eq_true_iff.mp (show (a.closed && b.closed) = true from c)
    obtain ⟨n1, n2⟩ := Bool.and_eq_true_iff.mp (show (a.noFn && b.noFn) = true from n)
    have e : (Kd.pair a b).dep = max a.dep b.dep + 1 := rfl
    rcases List.mem_cons.mp h with h | h
    · rw [h]
      exact ⟨c1, n1, by omega⟩
    · rw [List.mem_singleton.mp h]
      exact ⟨c2, n2, by omega⟩
  | eith a b, c, n => fun x h => by
    obtain ⟨c1, c2⟩ := Bool.and_eq_true_iff.mp (show (a.closed && b.closed) = true from c)
    obtain ⟨n1, n2⟩ := Bool.and_eq_true_iff.mp (show (a.noFn && b.noFn) = true from n)
    have e : (Kd.eith a b).dep = max a.dep b.dep + 1 := rfl
    rcases List.mem_cons.mp h with h | h
    · rw [h]
      exact ⟨c1, n1, by omega⟩
    · rw [List.mem_singleton.mp h]
      exact ⟨c2, n2, by omega⟩
  | fn a b, c, n => by cases n
theorem Kd.kids_kz : ∀ k : Kd, (k.kids.map Kd.kz).sum + 1 = k.kz
  | num => rfl
  | unit => rfl
  | var _ => rfl
  | lst a => by simp [Kd.kids, Kd.kz]
  | pair a b => by simp [Kd.kids, Kd.kz]
  | eith a b => by simp [Kd.kids, Kd.kz]
  | fn a b => by simp [Kd.kids, Kd.kz]
theorem Kd.kids_len : ∀ k : Kd, k.kids.length ≤ 2
  | num => by decide
  | unit => by decide
  | var _ => Nat.zero_le _
  | lst a => by show 1 ≤ 2; decide
  | pair a b => Nat.le_refl 2
  | eith a b => Nat.le_refl 2
  | fn a b => Nat.le_refl 2
theorem Kd.dep_pos : ∀ k : Kd, 1 ≤ k.dep
  | num => Nat.le_refl 1
  | unit => Nat.le_refl 1
  | var _ => Nat.le_refl 1
  | lst a => Nat.le_add_left _ _
  | pair a b => Nat.le_add_left _ _
  | eith a b => Nat.le_add_left _ _
  | fn a b => Nat.le_add_left _ _
theorem Kd.kz_dep : ∀ k : Kd, k.kz + 1 ≤ 2 ^ k.dep
  | num => by decide
  | unit => by decide
  | var _ => by show 1 + 1 ≤ 2 ^ 1; decide
  | lst a => by
    have h := Kd.kz_dep a
    have e : 2 ^ (Kd.lst a).dep = 2 * 2 ^ a.dep := by rw [Nat.mul_comm]; exact Nat.pow_succ _ _
    have z : (Kd.lst a).kz = a.kz + 1 := rfl
    omega
  | pair a b => by
    have h1 := Nat.le_trans (Kd.kz_dep a) (Nat.pow_le_pow_right (by decide) (Nat.le_max_left a.dep b.dep))
    have h2 := Nat.le_trans (Kd.kz_dep b) (Nat.pow_le_pow_right (by decide) (Nat.le_max_right a.dep b.dep))
    have e : 2 ^ (Kd.pair a b).dep = 2 * 2 ^ (max a.dep b.dep) := by rw [Nat.mul_comm]; exact Nat.pow_succ _ _
    have z : (Kd.pair a b).kz = a.kz + b.kz + 1 := rfl
    omega
  | eith a b => by
    have h1 := Nat.le_trans (Kd.kz_dep a) (Nat.pow_le_pow_right (by decide) (Nat.le_max_left a.dep b.dep))
    have h2 := Nat.le_trans (Kd.kz_dep b) (Nat.pow_le_pow_right (by decide) (Nat.le_max_right a.dep b.dep))
    have e : 2 ^ (Kd.eith a b).dep = 2 * 2 ^ (max a.dep b.dep) := by rw [Nat.mul_comm]; exact Nat.pow_succ _ _
    have z : (Kd.eith a b).kz = a.kz + b.kz + 1 := rfl
    omega
  | fn a b => by
    have h1 := Nat.le_trans (Kd.kz_dep a) (Nat.pow_le_pow_right (by decide) (Nat.le_max_left a.dep b.dep))
    have h2 := Nat.le_trans (Kd.kz_dep b) (Nat.pow_le_pow_right (by decide) (Nat.le_max_right a.dep b.dep))
    have e : 2 ^ (Kd.fn a b).dep = 2 * 2 ^ (max a.dep b.dep) := by rw [Nat.mul_comm]; exact Nat.pow_succ _ _
    have z : (Kd.fn a b).kz = a.kz + b.kz + 1 := rfl
    omega
/-! ### defs that stand -/
def Has (P : Program) (w : World) (K : PySem.W.Frag) (mg : Str → Option Value) (base : Heap) (x : Str) (ps : List Str) (k : Nat) (sp : Sp) : Prop :=
  ∃ (f : Addr) (fd : FuncData), PySem.W.keepIn K (.ref f) = true ∧ mg x = some (.ref f) ∧ Binds K fd ps [] ∧ FnOk P w K mg base CX0 k f fd ps sp
end KB
namespace KB
open PySem L2 PySem.Spec PyProof.Rows
/-! ### the program's kinds -/
structure Pf (P : Program) (w : World) (K : PySem.W.Frag) (mg : Str → Option Value) (dW t1 t2 t3 aV : Addr) (tk : Nat) : Prop where
  gW : mg "WORDS_BY_LENGTH" = some (.ref dW)
  D : KI P w K dW [(.inl 1, .ref t1), (.inl 2, .ref t2), (.inl 3, .ref t3)]
  s1 : ∀ H, SqT K H t1 ((["unit", "num"] : List Str).map V.str)
  s2 : ∀ H, SqT K H t2 ((["var", "list"] : List Str).map V.str)
  s3 : ∀ H, SqT K H t3 ((["pair", "either", "fun"] : List Str).map V.str)
  gV : mg "VARIABLES" = some (.ref aV)
  gD : mg "DEEPEST" = some (.int 100 tk)
/-- has_form(kind), a closed one -/
def spHfK : Sp := fun vs H Q _ => ∃ (F : Addr → Prop) (v : V) (k : Kd), vs = [v] ∧ Dt F H v k.d ∧ k.closed = true ∧ Q (.bl true) H
def lvD (p : Kd × Int) : PyData := .tuple [p.1.d, .int p.2]
/-- parts_with_levels(kind) -/
def spPwl : Sp := fun vs H Q _ => ∃ (F : Addr → Prop) (v : V) (k : Kd), vs = [v] ∧ Dt F H v k.d ∧ k.closed = true ∧ k.noFn = true ∧ k.dep ≤ 100 ∧ k.kz ≤ 10000 ∧
  ∀ (G : Addr) (gs : List V) (ps : List (Kd × Int)) (H' : Hp), Same H H' → H' G = some (.lst gs) → DtA (Ot []) H' gs (ps.map lvD) → (∀ p ∈ ps, p.1.closed = true ∧ p.1.noFn = true) → ps.length ≤ 10000 → Q (.ref G) H'
/-- the kids' row, with their level -/
theorem kids_lv (ks : List Kd) (l : Int) (i : Nat) (k : Kd) (h : ks[i]? = some k) : (ks.take (i + 1)).map (fun k => lvD (k, l)) = (ks.take i).map (fun k => lvD (k, l)) ++ [lvD (k, l)] := by
  rw [List.take_add_one, h, List.map_append]
  rfl
/-- t[i:] with i written -/
theorem slC {K : PySem.W.Frag} {F : Addr → Prop} {σ : L2.St} {H : Hp} {u : Nat} {vv : V} {ds : List PyData} {Q : VK} (i : Nat) (hF : ∀ p, H p = none → F p) (su : σ[u]? = some (some vv)) (hv : Dt F H vv (.tuple ds)) (q : ∀ v H', Same H H' → Dt F H' v (.tuple (ds.drop i)) → Q v H') :
    tSl (rSlA K) (tVar u) (tPart (tC (V.int (i : Int)))) tNoPart σ H Q := ⟨_, su, _, rfl, dropD hF hv q⟩
end KB
namespace K3
open PySem PySem.Spec PyProof.Rows L2 KB
section
variable {P : Program} {w : World} {K : PySem.W.Frag} {mg : Str → Option Value} {base : Heap} {dW t1 t2 t3 aV : Addr} {tk : Nat}
abbrev nTxt : List Str := ["value", "texts"]
theorem scTxt : FnScope nTxt ["value", "texts"] (defScope (top 10)) := ⟨rfl, rfl, rfl, by decide +kernel, rfl, by decide +kernel, by decide +kernel⟩
theorem ok_txt {f : Addr} {fd : FuncData} (F : FnP K "is_text_of" (top 10) f fd) (B : Bl K mg) : FnOk P w K mg base CX0 1 f fd ["value", "texts"] (spTxt K) := by
  refine F.ok scTxt (fun vs H Q E h => ?_) (fun cdv A outer s H vs Q E hr h => ?_)
  · obtain ⟨F, v, t, d, xs, rfl, _⟩ := h
    rfl
  · obtain ⟨Fa, v, t, d, xs, rfl, hd, ht, q⟩ := h
    have sc := scTxt
    refine ⟨_, PSs.nox (pss_one (ps_ret (pe_and (pe_callB call_isi (by rfl) B.isinstance (by decide +kernel) (pa_cons (pv 0) (pa_cons (pe_bltn (v := .ty "str") (by rfl) B.str (by decide +kernel) rfl) pa_nil))) (pe_one (pe_cmpR op_in_seq (pv 0) (pv 1) (by rfl)))))), ?_⟩
    obtain ⟨ty, tyx, k1, k2, k3, k4⟩ := tyD (K := K) hd
    refine ⟨_, rfl, _, _, ty, _, _, rfl, .ty _, tyx, k4, _, rfl, ?_⟩
    cases hd with
    | str x =>
      refine ifT rfl ⟨_, rfl, _, rfl, t, _, rfl, .inr ht, rfl, flat_strs _, ?_⟩
      have e : txB (.str x) xs = inV (.str x) (xs.map V.str) := (inV_str x xs).symm
      rw [e] at q
      exact q
    | int i => exact ifF rfl q
    | bl b => exact ifF rfl q
    | non => exact ifF rfl q
    | lst f h r => exact ifF rfl q
    | tup f h r => exact ifF rfl q
    | emp f h => exact ifF rfl q
abbrev nHf : List Str := ["value"]
theorem scHf : FnScope nHf ["value"] (defScope (top 13)) := ⟨rfl, rfl, rfl, by decide +kernel, rfl, by decide +kernel, by decide +kernel⟩
theorem ok_hfk {f : Addr} {fd : FuncData} (F : FnP K "_has_form" (top 13) f fd) (B : Bl K mg) (T : Pf P w K mg dW t1 t2 t3 aV tk) (hX : Has P w K mg base "is_text_of" ["value", "texts"] 1 (spTxt K)) : FnOk P w K mg base CX0 2 f fd ["value"] spHfK := by
  obtain ⟨fX, fdX, kX, gX, bX, GX⟩ := hX
  refine F.ok scHf (fun vs H Q E h => ?_) (fun cdv A outer s H vs Q E hr h => ?_)
  · obtain ⟨F, v, k, rfl, _⟩ := h
    rfl
  · obtain ⟨Fa, v, k, rfl, hd, hc, q⟩ := h
    have sc := scHf
    have hrX : Room 1 _ := hr
    refine ⟨_, PSs.nox (pss_cons (ps_if (PW.pt (pw_or (pt_not (pt_val (pe_callB call_isi (by rfl) B.isinstance (by decide +kernel) (pa_cons (pv 0) (pa_cons (pe_bltn (v := .ty "tuple") (by rfl) B.tuple (by decide +kernel) rfl) pa_nil))))) (pw_or1 (pt_cmpR (op_notIn_ki T.D) (pe_callB call_len (by rfl) B.len (by decide +kernel) (pa_cons (pv 0) pa_nil)) (pe_glob (v := .ref dW) rfl T.gW rfl) (by rfl))))) (pss_one (ps_ret pe_bl)) pss_nil) (pss_cons (ps_if (pt_not (pt_val (pe_call GX hrX rfl gX kX bX .nil pass0 (pa_cons (pe_ix ix_tup (pv 0) pe_int (fun _ _ => rfl)) (pa_cons (pe_ix (ix_ki T.D) (pe_glob (v := .ref dW) rfl T.gW rfl) (pe_callB call_len (by rfl) B.len (by decide +kernel) (pa_cons (pv 0) pa_nil)) (fun _ _ => rfl)) pa_nil))))) (pss_one (ps_ret pe_bl)) pss_nil) (pss_one (ps_ret (pe_or (pe_cmpR op_ne (pe_ix ix_tup (pv 0) pe_int (fun _ _ => rfl)) pe_str (nomark _)) (pe_one (pe_call GX hrX rfl gX kX bX .nil pass0 (pa_cons (pe_ix ix_tup (pv 0) pe_int (fun _ _ => rfl)) (pa_cons (pe_glob (v := .ref aV) rfl T.gV rfl) pa_nil))))))))), ?_⟩
    obtain ⟨wd, ks, n, t, ws, e, hn, hk, hS, hcn, hv⟩ : ∃ (wd : Str) (ks : List Kd) (n : Nat) (t : Addr) (ws : List Str), k.d = .tuple (.str wd :: ks.map Kd.d) ∧ ks.length + 1 = n ∧ (n = 1 ∧ t = t1 ∨ n = 2 ∧ t = t2 ∨ n = 3 ∧ t = t3) ∧ SqT K H t (ws.map V.str) ∧ ws.contains wd = true ∧ wd ≠ "var" := by
      cases k with
      | var x => cases hc
      | num => exact ⟨"num", [], 1, t1, _, rfl, rfl, .inl ⟨rfl, rfl⟩, T.s1 H, by decide, by decide⟩
      | unit => exact ⟨"unit", [], 1, t1, _, rfl, rfl, .inl ⟨rfl, rfl⟩, T.s1 H, by decide, by decide⟩
      | lst a => exact ⟨"list", [a], 2, t2, _, rfl, rfl, .inr (.inl ⟨rfl, rfl⟩), T.s2 H, by decide, by decide⟩
      | pair a b => exact ⟨"pair", [a, b], 3, t3, _, rfl, rfl, .inr (.inr ⟨rfl, rfl⟩), T.s3 H, by decide, by decide⟩
      | eith a b => exact ⟨"either", [a, b], 3, t3, _, rfl, rfl, .inr (.inr ⟨rfl, rfl⟩), T.s3 H, by decide, by decide⟩
      | fn a b => exact ⟨"fun", [a, b], 3, t3, _, rfl, rfl, .inr (.inr ⟨rfl, rfl⟩), T.s3 H, by decide, by decide⟩
    rw [e] at hd
    obtain ⟨ty, tyx, k1, k2, k3, k4⟩ := tyD (K := K) hd
    obtain ⟨a, xs, rfl, fa, ha, r⟩ := hd.tupI
    have hl : xs.length = n := by rw [r.length, List.length_cons, List.length_map]; exact hn
    have val : valV (κ := L2.Key) [(.inl 1, V.ref t1), (.inl 2, .ref t2), (.inl 3, .ref t3)] (.inl (xs.length : Int)) = some (.ref t) := by
      rw [hl]
      rcases hk with ⟨rfl, rfl⟩ | ⟨rfl, rfl⟩ | ⟨rfl, rfl⟩ <;> rfl
    refine ⟨_, rfl, _, _, ty, _, _, rfl, .ty _, tyx, k3, _, rfl, ifF rfl ?_⟩
    refine ⟨_, rfl, _, _, rfl, .inr ⟨_, SqT.of ha, rfl⟩, .inl (xs.length : Int), rfl, rfl, _, rfl, ifF (by rw [val]; rfl) ?_⟩
    cases r with
    | @cons x xs' _ _ h0 r' =>
      have e0 := h0.strI
      subst e0
      refine ⟨_, rfl, a, _, 0, _, rfl, rfl, SqT.of ha, atI_nat (j := 0) rfl, _, rfl, _, _, rfl, .inr ⟨_, SqT.of ha, rfl⟩, .inl _, _, rfl, rfl, val, ?_⟩
      refine ⟨Fa, .str wd, t, .str wd, ws, rfl, .str _, hS, ⟨_, rfl, ?_⟩⟩
      refine ifF (by show (!ws.contains wd) = false; rw [hcn]; rfl) ?_
      have e1 : (!decide (V.str wd = V.str "var")) = true := by
        rw [decide_eq_false fun z => hv (V.str.inj z)]
        rfl
      refine ⟨_, rfl, a, _, 0, _, rfl, rfl, SqT.of ha, atI_nat (j := 0) rfl, rfl, _, rfl, ifT e1 ?_⟩
      exact q
abbrev nPwl : List Str := ["value", "found", "waiting", "part", "level", "below"]
theorem scPwl : FnScope nPwl ["value"] (defScope (top 12)) := ⟨rfl, rfl, rfl, by decide +kernel, rfl, by decide +kernel, by decide +kernel⟩
/-- what waits, what is found -/
def okp (p : Kd × Int) : Prop := p.1.closed = true ∧ p.1.noFn = true ∧ p.2 + p.1.dep ≤ 101
def msr (ps : List (Kd × Int)) : Nat := (ps.map fun p => p.1.kz).sum
theorem msr_app (a b : List (Kd × Int)) : msr (a ++ b) = msr a + msr b := by
  unfold msr
  rw [List.map_append, List.sum_append]
theorem msr_kids (ks : List Kd) (l : Int) : msr (ks.map fun k => (k, l)) = (ks.map Kd.kz).sum := by
  unfold msr
  rw [List.map_map]
  rfl
theorem msr_len : ∀ ps : List (Kd × Int), ps.length ≤ msr ps
  | [] => Nat.zero_le _
  | p :: ps => by
    have e : msr (p :: ps) = p.1.kz + msr ps := rfl
    have := Kd.kids_kz p.1
    have := msr_len ps
    rw [List.length_cons]
    omega
theorem ok_pwl {f : Addr} {fd : FuncData} (F : FnP K "_parts_with_levels" (top 12) f fd) (T : Pf P w K mg dW t1 t2 t3 aV tk) (hH : Has P w K mg base "has_form_kinds" ["value"] 2 spHfK) : FnOk P w K mg base CX0 3 f fd ["value"] spPwl := by
  obtain ⟨fH, fdH, kH, gH, bH, GH⟩ := hH
  refine F.ok scPwl (fun vs H Q E h => ?_) (fun cdv A outer s H vs Q E hr h => ?_)
  · obtain ⟨F, v, k, rfl, _⟩ := h
    rfl
  · obtain ⟨Fa, v, k, rfl, hd, hc, hnf, hdp, hkz, q⟩ := h
    have sc := scPwl
    have hrH : Room 2 _ := hr
    refine ⟨_, PSs.nox (pss_cons (ps_set (i := 1) sc.nd rfl (Or.inl rfl) (pe_lst pa_nil)) (pss_cons (ps_set (i := 2) sc.nd rfl (Or.inl rfl) (pe_lst (pa_cons (pe_tup (pa_cons (pv 0) (pa_cons pe_int pa_nil))) pa_nil))) (pss_cons (ps_while PassesOwn.never (pt_truth (pv 2) (by intro _; rfl)) (pss_cons (ps_asg (pe_bm0 PySem.F.plainAttrs_list PySem.F.slot_list_pop PySem.F.type_list_pop mt_pop (pv 2)) (pg_tup rfl (pgs_cons (pg_name (i := 3) sc.nd rfl (Or.inl rfl)) (pgs_cons (pg_name (i := 4) sc.nd rfl (Or.inr rfl)) pgs_nil)))) (pss_cons (ps_if (PW.pt (pw_or (pt_cmpR op_gt (pv 4) (pe_glob (v := .int 100) rfl T.gD ⟨_, rfl⟩) (nomark _)) (pw_or1 (pt_not (pt_val (pe_call GH hrH rfl gH kH bH .nil pass0 (pa_cons (pv 3) pa_nil))))))) (pss_one (ps_ret pe_non)) pss_nil) (pss_cons (ps_expr (pe_bm PySem.F.plainAttrs_list PySem.F.slot_list_append PySem.F.type_list_append mt_append (pv 1) (pa_cons (pe_tup (pa_cons (pv 3) (pa_cons (pv 4) pa_nil))) pa_nil))) (pss_one (ps_if (pt_cmpR op_ne (pe_ix ix_tup (pv 3) pe_int (fun _ _ => rfl)) pe_str (nomark _)) (pss_one (ps_expr (pe_bm PySem.F.plainAttrs_list PySem.F.slot_list_extend PySem.F.type_list_extend mt_extend (pv 2) (pa_cons (pe_lc (own := [("below", 5)]) (g := gName 5) (tt := tYes) (by rfl) sc.nd (pi_tup (pe_slice sl_tupA (pv 3) (po_some pe_int) po_none)) (blkOk_by (own := [("below", 5)]) (N := nPwl) (sc := (defScope (top 12))) (by decide +kernel)) (fun _ _ _ _ _ => (pg_name (i := 5) sc.nd rfl (Or.inl rfl))) (fun _ _ _ _ _ => pts_nil) (fun _ _ _ _ _ => (pe_tup (pa_cons (pv 5) (pa_cons (pe_op op_add (pv 4) pe_int) pa_nil))))) pa_nil)))) pss_nil)))))) (pss_one (ps_ret (pv 1)))))), ?_⟩
    have big : ∀ k : Nat, k ≤ 1000 → k ≤ sizeLine := fun k h => Nat.le_of_lt (small1000 h)
    have h20 : ∀ k : Nat, k ≤ 20000 → k ≤ sizeLine := fun k h => Nat.le_trans h (by decide)
    refine ⟨Nat.zero_le _, fun G nG => ?_⟩
    refine ⟨_, rfl, big _ (by show (2 : Nat) ≤ 1000; decide), fun t nt => ⟨big _ (by show (1 : Nat) ≤ 1000; decide), fun W nW => ?_⟩⟩
    have nG' : G ≠ t := fun z => by rw [← z, upd_same] at nt; cases nt
    have nGW : G ≠ W := fun z => by rw [← z, upd_ne nG', upd_same] at nW; cases nW
    have ntW : t ≠ W := fun z => by rw [← z, upd_same] at nW; cases nW
    have WH : H W = none := by
      cases e : H W with
      | none => rfl
      | some o =>
        have w1 : W ≠ G := fun z => nGW z.symm
        have w2 : W ≠ t := fun z => ntW z.symm
        rw [upd_ne w2, upd_ne w1, e] at nW
        cases nW
    have tH : H t = none := by
      rw [upd_ne (fun z => nG' z.symm)] at nt
      exact nt
    have start : Same H (upd (upd (upd H G (.lst [])) t (.tup [v, .int 1])) W (.lst [.ref t])) := (Same.new nG).trans ((Same.new nt).trans (Same.new nW))
    have d0 : Dt (Ot [G, W]) (upd (upd (upd H G (.lst [])) t (.tup [v, .int 1])) W (.lst [.ref t])) v k.d := ((hd.any.wide WH).wide nG).keep start
    refine ⟨fun m σ H1 => ∃ (u3 u4 u5 : Option V) (ws gs : List V) (ps qs : List (Kd × Int)), σ = [some v, some (.ref G), some (.ref W), u3, u4, u5] ∧ Kp [G, W] H H1 ∧ H1 W = some (.lst ws) ∧ H1 G = some (.lst gs) ∧
      DtA (Ot [G, W]) H1 ws (ps.map lvD) ∧ DtA (Ot [G, W]) H1 gs (qs.map lvD) ∧ (∀ p ∈ ps, okp p) ∧ (∀ p ∈ qs, okp p) ∧ m = msr ps ∧ qs.length + msr ps ≤ 10000, ⟨k.kz, none, none, none, [.ref t], [], [(k, 1)], [], rfl, Kp.same start, upd_same, ?_, ?_, .nil, ?_, (fun p h => nomatch h), ?_, ?_⟩, ?_⟩
    · rw [upd_ne nGW, upd_ne nG', upd_same]
    · refine .cons (.tup ?_ (by rw [upd_ne ntW, upd_same]) (.cons d0 (.cons (.int 1) .nil))) .nil
      intro z; rcases (List.mem_cons.mp z) with z | z
      · exact nG' z.symm
      · exact ntW (List.mem_singleton.mp z)
    · intro p hp
      rw [List.mem_singleton.mp hp]
      exact ⟨hc, hnf, by show (1 : Int) + k.dep ≤ 101; omega⟩
    · simp [msr]
    · simp [msr]
      omega
    rintro m σ H1 ⟨u3, u4, u5, ws, gs, ps, qs, rfl, kp, hW, hG, dw, dg, okps, okqs, rfl, cnt⟩
    refine ⟨_, rfl, _, .inl ⟨ws, SqL.of hW, rfl⟩, ?_⟩
    rcases List.eq_nil_or_concat ps with rfl | ⟨ps', p, rfl⟩
    · cases dw
      refine ifF rfl ?_
      have thin : Same H H1 := ((kp.thin nG).thin WH).toSame
      refine ⟨_, rfl, q G gs qs H1 thin hG (dg.any) (fun p hp => ⟨(okqs p hp).1, (okqs p hp).2.1⟩) ?_⟩
      have : msr [] = 0 := rfl
      omega
    · rw [List.map_concat] at dw
      obtain ⟨ws', x, rfl, dw', dx⟩ := DtA.snoc (by simpa using dw)
      obtain ⟨k1, l1⟩ := p
      obtain ⟨hc1, hn1, hl1⟩ := okps (k1, l1) (by simp)
      obtain ⟨t', xs, rfl, ft, ht, rt⟩ := dx.tupI
      obtain ⟨kv, lv, rfl, dk, dl⟩ := rt.two
      have el := dl.intI
      subst el
      have pz := Kd.kids_kz k1
      have mz : msr (ps'.concat (k1, l1)) = msr ps' + k1.kz := by
        rw [List.concat_eq_append, msr_app]
        simp [msr]
      have pos := Kd.dep_pos k1
      have hl2 : l1 + (k1.dep : Int) ≤ 101 := hl1
      refine ifT (by simp) ?_
      refine ⟨fun σ2 H2 => ∃ (u3 u4 u5 : Option V) (ws gs : List V) (ps2 qs : List (Kd × Int)), σ2 = [some v, some (.ref G), some (.ref W), u3, u4, u5] ∧ Kp [G, W] H H2 ∧ H2 W = some (.lst ws) ∧ H2 G = some (.lst gs) ∧
        DtA (Ot [G, W]) H2 ws (ps2.map lvD) ∧ DtA (Ot [G, W]) H2 gs (qs.map lvD) ∧ (∀ p ∈ ps2, okp p) ∧ (∀ p ∈ qs, okp p) ∧ msr ps2 < msr (ps'.concat (k1, l1)) ∧ qs.length + msr ps2 ≤ 10000, ?_, ?_⟩
      · rintro σ2 H2 ⟨a3, a4, a5, b1, b2, b3, b4, e1, e2, e3, e4, e5, e6, e7, e8, e9, e10⟩
        exact ⟨msr b3, e9, a3, a4, a5, b1, b2, b3, b4, e1, e2, e3, e4, e5, e6, e7, e8, rfl, e10⟩
      refine ⟨_, rfl, .inl ⟨rfl, _, SqL.of hW⟩, W, _, .ref t', rfl, rfl, hW, by simp, ?_⟩
      rw [show (ws' ++ [V.ref t']).dropLast = ws' by simp]
      -- the part, its level
      have kA : Kp [G, W] H1 (upd H1 W (.lst ws')) := Kp.put (by simp)
      have ht1 := kA t' _ ft ht
      refine ⟨t', _, rfl, SqT.of ht1, rfl, _, _, rfl, _, _, rfl, rfl, ?_⟩
      refine ⟨_, rfl, _, _, rfl, rfl, _, rfl, ifF (decide_eq_false (by omega)) ?_⟩
      refine ⟨_, rfl, Ot [G, W], kv, k1, rfl, dk.kp kA, hc1, ⟨_, rfl, ifF rfl ?_⟩⟩
      -- found.append
      have hG1 : (upd H1 W (.lst ws')) G = some (.lst gs) := by rw [upd_ne nGW]; exact hG
      have lg := dg.length
      rw [List.length_map] at lg
      refine ⟨_, rfl, .inl ⟨rfl, _, SqL.of hG1⟩, _, rfl, _, rfl, big _ (by show (2 : Nat) ≤ 1000; decide), fun t2 n2 => ?_⟩
      have nG2 : G ≠ t2 := ne_of_none hG1 n2
      have hW1 : (upd H1 W (.lst ws')) W = some (.lst ws') := upd_same
      have nW2 : W ≠ t2 := ne_of_none hW1 n2
      have kB := kA.trans (Kp.new (S := [G, W]) (o := .tup [kv, .int l1]) n2)
      refine ⟨G, gs, _, rfl, rfl, by rw [upd_ne nG2]; exact hG1, Nat.lt_of_le_of_lt (by omega : _ ≤ 10000) (by decide), ?_⟩
      have kC : Kp [G, W] H1 _ := kB.trans (Kp.put (b := G) (o := .lst (gs ++ [.ref t2])) (by simp))
      have st2 : Ot [G, W] t2 := by
        intro z; rcases (List.mem_cons.mp z) with z | z
        · exact nG2 z.symm
        · exact nW2 (List.mem_singleton.mp z).symm
      have h2C : (upd (upd (upd H1 W (.lst ws')) t2 (.tup [kv, .int l1])) G (.lst (gs ++ [.ref t2]))) t2 = some (.tup [kv, .int l1]) := by
        rw [upd_ne (fun z => nG2 z.symm), upd_same]
      have dg2 : DtA (Ot [G, W]) (upd (upd (upd H1 W (.lst ws')) t2 (.tup [kv, .int l1])) G (.lst (gs ++ [.ref t2]))) (gs ++ [.ref t2]) ((qs ++ [(k1, l1)]).map lvD) := by
        rw [List.map_append]
        exact (dg.kp kC).append (.cons (.tup st2 h2C (.cons (dk.kp kC) (.cons (.int l1) .nil))) .nil)
      have hWC : (upd (upd (upd H1 W (.lst ws')) t2 (.tup [kv, .int l1])) G (.lst (gs ++ [.ref t2]))) W = some (.lst ws') := by
        rw [upd_ne (fun z => nGW z.symm), upd_ne nW2, upd_same]
      have hGC : (upd (upd (upd H1 W (.lst ws')) t2 (.tup [kv, .int l1])) G (.lst (gs ++ [.ref t2]))) G = some (.lst (gs ++ [.ref t2])) := upd_same
      have dkC := dk.kp kC
      have dwC := dw'.kp kC
      generalize upd (upd (upd H1 W (.lst ws')) t2 (.tup [kv, .int l1])) G (.lst (gs ++ [.ref t2])) = HC at kC dg2 hWC hGC dkC dwC ⊢
      have okq2 : ∀ p ∈ qs ++ [(k1, l1)], okp p := fun p hp => (List.mem_append.mp hp).elim (okqs p) fun z => by
        rw [List.mem_singleton.mp z]
        exact ⟨hc1, hn1, hl1⟩
      rw [Kd.d_eq hc1] at dkC
      obtain ⟨ak, ys, rfl, fk, hk, rk⟩ := id dkC.tupI
      cases rk with
      | @cons y0 ys' _ _ hy0 rk' =>
      have ey := hy0.strI
      subst ey
      refine ⟨_, rfl, ak, _, 0, _, rfl, rfl, SqT.of hk, atI_nat (j := 0) rfl, rfl, _, rfl, ifT (by rw [decide_eq_false fun z => Kd.not_var hc1 (V.str.inj z)]; rfl) ?_⟩
      -- waiting.extend
      have stC : ∀ p, HC p = none → Ot [G, W] p := ot_new (S := [G, W]) (by
        intro a ha
        rcases List.mem_cons.mp ha with e | e
        · rw [e, hGC]; exact fun z => nomatch z
        · rw [List.mem_singleton.mp e, hWC]; exact fun z => nomatch z)
      refine ⟨_, rfl, .inl ⟨rfl, _, SqL.of hWC⟩, slC (K := K) 1 stC rfl dkC fun u HD sD dD => ?_⟩
      obtain ⟨b, xs, rfl, fb, hb, rb⟩ := dD.tupI
      have rb' : DtA (Ot [G, W]) HD xs (k1.kids.map Kd.d) := rb
      have lx := rb'.length
      rw [List.length_map] at lx
      have hGD := sD _ _ hGC
      have hWD := sD _ _ hWC
      refine ⟨b, rfl, ⟨_, SqT.of hb⟩, fun D nD => lc_tup (K := K) (a := b) (xs := xs) (fun i H2 => ∃ acc, H2 D = some (.lst acc) ∧ DtA (Ot [D, G, W]) H2 acc ((k1.kids.take i).map fun k => lvD (k, l1 + 1)) ∧ Same HD H2) ⟨[], upd_same, .nil, Same.new nD⟩
        (fun i H2 _ hP => SqT.of (hP.choose_spec.2.2 b _ hb)) ?_ ?_⟩
      · rintro i x H2 hi ⟨acc, hD, da, sm⟩
        obtain ⟨dd, hdd, dx⟩ := rb'.get hi
        obtain ⟨k2, hk2, rfl⟩ : ∃ k2, k1.kids[i]? = some k2 ∧ k2.d = dd := by
          rw [List.getElem?_map] at hdd
          cases e : k1.kids[i]? with
          | none => rw [e] at hdd; cases hdd
          | some k2 => rw [e] at hdd; exact ⟨k2, rfl, Option.some.inj hdd⟩
        have il : i < k1.kids.length := (List.getElem?_eq_some_iff.mp hk2).1
        have k2l := Kd.kids_len k1
        refine ⟨rfl, ?_⟩
        refine iteT (B := ∃ acc, H2 D = some (.lst acc) ∧ DtA (Ot [D, G, W]) H2 acc ((k1.kids.take (i + 1)).map fun k => lvD (k, l1 + 1)) ∧ Same HD H2) ?_
        refine ⟨_, rfl, _, rfl, _, _, rfl, rfl, big _ (by show (2 : Nat) ≤ 1000; decide), fun p np => ?_⟩
        have pD : D ≠ p := ne_of_none hD np
        have la := da.length
        rw [List.length_map, List.length_take] at la
        refine ⟨acc, by rw [upd_ne pD]; exact hD, Nat.lt_of_le_of_lt (by omega : _ ≤ 10) (by decide), acc ++ [.ref p], upd_same, ?_, ?_⟩
        · rw [kids_lv _ _ i k2 hk2]
          have kk : Kp [D, G, W] H2 (upd (upd H2 p (.tup [x, .int (l1 + 1)])) D (.lst (acc ++ [.ref p]))) := (Kp.new np).trans (Kp.put (by simp))
          refine (da.kp kk).append (.cons (.tup ?_ ?_ (.cons (((dx.wide nD).keep sm).kp kk) (.cons (.int _) .nil))) .nil)
          · intro z; rcases (List.mem_cons.mp z) with z | z
            · exact pD z.symm
            · rcases (List.mem_cons.mp z) with z | z
              · exact ne_of_none (sm _ _ hGD) np z.symm
              · exact ne_of_none (sm _ _ hWD) np (List.mem_singleton.mp z).symm
          · rw [upd_ne (fun z => pD z.symm), upd_same]
        · intro c o e
          have c1 : c ≠ D := ne_of_none e nD
          rw [upd_ne c1, upd_ne (ne_of_none (sm c o e) np)]
          exact sm c o e
      · rintro H2 ⟨acc, hD, da, sm⟩
        rw [lx, List.take_length] at da
        have la := da.length
        rw [List.length_map] at la
        have k2l := Kd.kids_len k1
        have hW2 := sm _ _ hWD
        have hG2 := sm _ _ hGD
        have wD : W ≠ D := ne_of_none hWD nD
        have lw := dw'.length
        rw [List.length_map] at lw
        have wl := msr_len ps'
        have kE : Kp [G, W] HC (upd H2 W (.lst (ws' ++ acc))) := (Kp.same (sD.trans sm)).trans (Kp.put (by simp))
        have kF : Kp [G, W] H1 (upd H2 W (.lst (ws' ++ acc))) := kC.trans kE
        refine ⟨W, D, ws', acc, rfl, rfl, hW2, hD, h20 _ (by omega), ?_⟩
        refine ⟨_, _, _, ws' ++ acc, gs ++ [.ref t2], ps' ++ k1.kids.map (fun k => (k, l1 + 1)), qs ++ [(k1, l1)], rfl, kp.trans kF, upd_same, by rw [upd_ne nGW]; exact hG2, ?_, dg2.kp kE, ?_, okq2, ?_, ?_⟩
        · rw [List.map_append, List.map_map]
          refine (dw'.kp kF).append ?_
          have : DtA (Ot [G, W]) H2 acc (k1.kids.map fun k => lvD (k, l1 + 1)) := da.less
          exact this.kp (Kp.put (by simp))
        · intro p hp; rcases List.mem_append.mp hp with z | z
          · exact okps p (by rw [List.concat_eq_append]; exact List.mem_append_left _ z)
          · obtain ⟨k2, hk2, rfl⟩ := List.mem_map.mp z
            obtain ⟨a1, a2, a3⟩ := Kd.kids_ok hc1 hn1 k2 hk2
            refine ⟨a1, a2, ?_⟩
            show l1 + 1 + (k2.dep : Int) ≤ 101
            omega
        · rw [msr_app, msr_kids, mz]
          omega
        · rw [msr_app, msr_kids, List.length_append]
          rw [mz] at cnt
          show qs.length + 1 + _ ≤ _
          omega
end
end K3
namespace KB
open PySem L2 PySem.Spec PyProof.Rows
/-- is_kind_without(kind, word) -/
def spKw : Sp := fun vs H Q _ => ∃ (F : Addr → Prop) (v : V) (k : Kd) (wd : Str), vs = [v, .str wd] ∧ Dt F H v k.d ∧ k.closed = true ∧ k.noFn = true ∧ k.dep ≤ 100 ∧ k.kz ≤ 10000 ∧ (wd = "fun" ∨ wd = "var") ∧ ∀ H', Same H H' → Q (.bl true) H'
/-- is_data_kind(kind), is_closed_kind(kind) -/
def spDk : Sp := fun vs H Q _ => ∃ (F : Addr → Prop) (v : V) (k : Kd), vs = [v] ∧ Dt F H v k.d ∧ k.closed = true ∧ k.noFn = true ∧ k.dep ≤ 100 ∧ k.kz ≤ 10000 ∧ ∀ H', Same H H' → Q (.bl true) H'
/-- check_kind(kind) -/
def spCk : Sp := fun vs H Q _ => ∃ (F : Addr → Prop) (v : V) (k : Kd), vs = [v] ∧ Dt F H v k.d ∧ k.closed = true ∧ k.noFn = true ∧ k.dep ≤ 100 ∧ k.kz ≤ 10000 ∧ ∀ H', Same H H' → Q .non H'
end KB
namespace K3
open PySem PySem.Spec PyProof.Rows L2 KB
section
variable {K : PySem.W.Frag} {mg : Str → Option Value} {base : Heap} {P : Program} {w : World}
abbrev nKw : List Str := ["value", "word", "found", "part", "level"]
theorem scKw : FnScope nKw ["value", "word"] (defScope (top 11)) := ⟨rfl, rfl, rfl, by decide +kernel, rfl, by decide +kernel, by decide +kernel⟩
theorem ok_kw {f : Addr} {fd : FuncData} (F : FnP K "_is_kind_without" (top 11) f fd) (B : Bl K mg) (hP : Has P w K mg base "_parts_with_levels" ["value"] 3 spPwl) : FnOk P w K mg base CX0 4 f fd ["value", "word"] spKw := by
  obtain ⟨fP, fdP, kP, gP, bP, GP⟩ := hP
  refine F.ok scKw (fun vs H Q E h => ?_) (fun cdv A outer s H vs Q E hr h => ?_)
  · obtain ⟨F, v, k, wd, rfl, _⟩ := h
    rfl
  · obtain ⟨Fa, v, k, wd, rfl, hd, hc, hnf, hdp, hkz, hwd, q⟩ := h
    have sc := scKw
    have hrP : Room 3 _ := hr
    refine ⟨_, PSs.nox (pss_cons (ps_set (i := 2) sc.nd rfl (Or.inl rfl) (pe_call GP hrP rfl gP kP bP .nil pass0 (pa_cons (pv 0) pa_nil))) (pss_one (ps_ret (pe_and (pe_cmpR op_notN (pv 2) pe_non (nomark _)) (pe_one (pe_callB (cr_all rfl) (by rfl) B.all (by decide +kernel) (pa_cons (pe_lc (own := [("part", 3), ("level", 4)]) (tt := tYes) (by rfl) sc.nd (pi_list (pv 2)) (blkOk_by (own := [("part", 3), ("level", 4)]) (N := nKw) (sc := (defScope (top 11))) (by decide +kernel)) (fun _ _ _ _ _ => (pgT (K := K) (n := 2) rfl rfl (pgs_cons (pg_name (i := 3) sc.nd rfl (Or.inl rfl)) (pgs_cons (pg_name (i := 4) sc.nd rfl (Or.inl rfl)) pgs_nil)))) (fun _ _ _ _ _ => pts_nil) (fun _ _ _ _ _ => (pe_cmpR op_ne (pe_ix (ixT (K := K) rfl) (pv 3) pe_int (fun _ _ => rfl)) (pv 1) (nomark _)))) pa_nil))))))), ?_⟩
    refine ⟨_, rfl, Fa, v, k, rfl, hd, hc, hnf, hdp, hkz, fun G gs ps H1 s1 hG dg okp cnt => ?_⟩
    have lg := dg.length
    rw [List.length_map] at lg
    refine ⟨_, rfl, rfl, _, rfl, ifT rfl ?_⟩
    refine ⟨_, rfl, G, rfl, ⟨_, SqL.of hG⟩, fun D nD => lc_list (K := K) (a := G) (xs := gs) (fun i H2 => Same H1 H2 ∧ H2 D = some (.lst (List.replicate i (V.bl true)))) ⟨Same.new nD, upd_same⟩ (fun i H2 _ hP => SqL.of (hP.1 G _ hG)) ?_ ?_⟩
    · rintro i e H2 hi ⟨sm, hD⟩
      obtain ⟨de, hde, dte⟩ := dg.get hi
      have il : i < gs.length := (List.getElem?_eq_some_iff.mp hi).1
      obtain ⟨⟨k1, l1⟩, hk1, rfl⟩ : ∃ p, ps[i]? = some p ∧ lvD p = de := by
        rw [List.getElem?_map] at hde
        cases e : ps[i]? with
        | none => rw [e] at hde; cases hde
        | some k2 => rw [e] at hde; exact ⟨k2, rfl, Option.some.inj hde⟩
      obtain ⟨hc1, hn1⟩ := okp _ (List.mem_of_getElem? hk1)
      obtain ⟨t, xs, rfl, ft, ht, rt⟩ := dte.tupI
      obtain ⟨kv, lv, rfl, dk, dl⟩ := rt.two
      have dk' : Dt (Ot []) H1 kv k1.d := dk
      rw [Kd.d_eq hc1] at dk'
      obtain ⟨a, ys, rfl, fa, ha, ra⟩ := dk'.tupI
      cases ra with
      | @cons y0 ys' _ _ h0 ra' =>
      have e0 := h0.strI
      subst e0
      have ne : k1.word ≠ wd := by
        rcases hwd with rfl | rfl
        · exact Kd.not_fun hn1
        · exact Kd.not_var hc1
      refine ⟨t, _, rfl, SqT.of (sm t _ ht), rfl, _, _, rfl, _, _, rfl, rfl, rfl, ?_⟩
      refine iteT (B := Same H1 H2 ∧ H2 D = some (.lst (List.replicate (i + 1) (V.bl true)))) ?_
      refine ⟨_, rfl, a, _, 0, _, rfl, rfl, SqT.of (sm a _ ha), atI_nat (j := 0) rfl, _, rfl, rfl, _, hD, Nat.lt_of_le_of_lt (by rw [List.length_replicate]; omega : _ ≤ 10000) (by decide), fun b o e2 => ?_, ?_⟩
      · rw [upd_ne (ne_of_none e2 nD)]
        exact sm b o e2
      · rw [upd_same, decide_eq_false fun z => ne (V.str.inj z), List.replicate_succ', Bool.not_false]
    · rintro H2 ⟨sm, hD⟩
      refine ⟨D, List.replicate gs.length true, rfl, ?_, ?_⟩
      · rw [List.map_replicate]
        exact SqL.of hD
      · have : (List.replicate gs.length true).all id = true := by
          rw [List.all_replicate]
          simp
        rw [this]
        exact q H2 (s1.trans sm)
abbrev nDk : List Str := ["value"]
theorem scDk : FnScope nDk ["value"] (defScope (top 8)) := ⟨rfl, rfl, rfl, by decide +kernel, rfl, by decide +kernel, by decide +kernel⟩
theorem scCk8 : FnScope nDk ["value"] (defScope (top 9)) := ⟨rfl, rfl, rfl, by decide +kernel, rfl, by decide +kernel, by decide +kernel⟩
theorem ok_dk {f : Addr} {fd : FuncData} (F : FnP K "is_data_kind" (top 8) f fd) (hW : Has P w K mg base "_is_kind_without" ["value", "word"] 4 spKw) : FnOk P w K mg base CX0 5 f fd ["value"] spDk := by
  obtain ⟨fW, fdW, kW, gW, bW, GW⟩ := hW
  refine F.ok scDk (fun vs H Q E h => ?_) (fun cdv A outer s H vs Q E hr h => ?_)
  · obtain ⟨F, v, k, rfl, _⟩ := h
    rfl
  · obtain ⟨Fa, v, k, rfl, hd, hc, hnf, hdp, hkz, q⟩ := h
    have sc := scDk
    have hrW : Room 4 _ := hr
    refine ⟨_, PSs.nox (pss_one (ps_ret (pe_call GW hrW rfl gW kW bW .nil pass0 (pa_cons (pv 0) (pa_cons pe_str pa_nil))))), ?_⟩
    exact ⟨_, rfl, Fa, v, k, _, rfl, hd, hc, hnf, hdp, hkz, .inl rfl, q⟩
theorem ok_ck8 {f : Addr} {fd : FuncData} (F : FnP K "is_closed_kind" (top 9) f fd) (hW : Has P w K mg base "_is_kind_without" ["value", "word"] 4 spKw) : FnOk P w K mg base CX0 5 f fd ["value"] spDk := by
  obtain ⟨fW, fdW, kW, gW, bW, GW⟩ := hW
  refine F.ok scCk8 (fun vs H Q E h => ?_) (fun cdv A outer s H vs Q E hr h => ?_)
  · obtain ⟨F, v, k, rfl, _⟩ := h
    rfl
  · obtain ⟨Fa, v, k, rfl, hd, hc, hnf, hdp, hkz, q⟩ := h
    have sc := scCk8
    have hrW : Room 4 _ := hr
    refine ⟨_, PSs.nox (pss_one (ps_ret (pe_call GW hrW rfl gW kW bW .nil pass0 (pa_cons (pv 0) (pa_cons pe_str pa_nil))))), ?_⟩
    exact ⟨_, rfl, Fa, v, k, _, rfl, hd, hc, hnf, hdp, hkz, .inr rfl, q⟩
abbrev nCk : List Str := ["kind"]
theorem scCk : FnScope nCk ["kind"] (defScope (top 19)) := ⟨rfl, rfl, rfl, by decide +kernel, rfl, by decide +kernel, by decide +kernel⟩
theorem ok_ck {f : Addr} {fd : FuncData} (F : FnP K "_check_kind" (top 19) f fd) (hD : Has P w K mg base "is_data_kind" ["value"] 5 spDk) (hC : Has P w K mg base "is_closed_kind" ["value"] 5 spDk) : FnOk P w K mg base CX0 6 f fd ["kind"] spCk := by
  obtain ⟨fD, fdD, kD, gD, bD, GD⟩ := hD
  obtain ⟨fC, fdC, kC, gC, bC, GC⟩ := hC
  refine F.ok scCk (fun vs H Q E h => ?_) (fun cdv A outer s H vs Q E hr h => ?_)
  · obtain ⟨F, v, k, rfl, _⟩ := h
    rfl
  · obtain ⟨Fa, v, k, rfl, hd, hc, hnf, hdp, hkz, q⟩ := h
    have sc := scCk
    have hrD : Room 5 _ := hr
    have hrC : Room 5 _ := hr
    refine ⟨_, PSs.nox (pss_one (ps_if (PW.pt (pw_or (pt_not (pt_val (pe_call GD hrD rfl gD kD bD .nil pass0 (pa_cons (pv 0) pa_nil)))) (pw_or1 (pt_not (pt_val (pe_call GC hrC rfl gC kC bC .nil pass0 (pa_cons (pv 0) pa_nil))))))) (pss_one ps_never) pss_nil)), ?_⟩
    refine ⟨_, rfl, Fa, v, k, rfl, hd, hc, hnf, hdp, hkz, fun H1 s1 => ⟨_, rfl, ifF rfl ?_⟩⟩
    exact ⟨_, rfl, Fa, v, k, rfl, hd.keep s1, hc, hnf, hdp, hkz, fun H2 s2 => ⟨_, rfl, ifF rfl (q H2 (s1.trans s2))⟩⟩
end
end K3
namespace KB
open PySem L2 PySem.Spec PyProof.Rows
/-! ### the program's walk through a value -/
def isNum : PyData → Bool
  | .int _ => true
  | _ => false
def hasF : Kd → PyData → Bool
  | .num, d => isNum d
  | .unit, .tuple ds => decide (ds.length = 0)
  | .pair _ _, .tuple (d :: ds) => decide (ds.length = 2) && txB d ["pair"]
  | .eith _ _, .tuple (d :: ds) => decide (ds.length = 1) && txB d ["left", "right"]
  | .lst _, .tuple _ => true
  | _, _ => false
def pbs : Kd → PyData → List (Kd × PyData)
  | .pair a b, .tuple [_, x, y] => [(a, x), (b, y)]
  | .eith a b, .tuple [.str p, x] => [(if p = "left" then a else b, x)]
  | .lst a, .tuple xs => xs.map fun x => (a, x)
  | _, _ => []
def pvD (p : Kd × PyData) : PyData := .tuple [p.1.d, p.2]
theorem hasF_notup {k : Kd} {d : PyData} (hk : k ≠ .num) (hd : isTup d = false) : hasF k d = false := by
  cases k <;> cases d <;> first | rfl | exact absurd rfl hk | cases hd
theorem contains_two (p x y : Str) : ([x, y] : List Str).contains p = true ↔ p = x ∨ p = y := by simp
theorem contains_one (p x : Str) : ([x] : List Str).contains p = true ↔ p = x := by simp
/-- a value of a kind has its form, and its parts are values -/
theorem isV_eq : ∀ (k : Kd) (d : PyData), k.closed = true → k.noFn = true → isV k d = (hasF k d && (pbs k d).all fun p => isV p.1 p.2)
  | .num, d, _, _ => by cases d <;> rfl
  | .unit, .tuple [], _, _ => rfl
  | .unit, .tuple (d :: ds), _, _ => by rw [isV_unit]; rfl
  | .unit, .none, _, _ => rfl
  | .unit, .bool _, _, _ => rfl
  | .unit, .int _, _, _ => rfl
  | .unit, .str _, _, _ => rfl
  | .unit, .list _, _, _ => rfl
  | .unit, .dict _, _, _ => rfl
  | .lst a, .tuple xs, _, _ => by
    rw [isV_lst]
    show _ = (true && (xs.map fun x => (a, x)).all fun p => isV p.1 p.2)
    rw [List.all_map, Bool.true_and]
    rfl
  | .lst a, .none, _, _ => rfl
  | .lst a, .bool _, _, _ => rfl
  | .lst a, .int _, _, _ => rfl
  | .lst a, .str _, _, _ => rfl
  | .lst a, .list _, _, _ => rfl
  | .lst a, .dict _, _, _ => rfl
  | .pair a b, .tuple ds, _, _ => by
    by_cases h : ds.length = 3
    · obtain ⟨d, x, y, rfl⟩ : ∃ d x y, ds = [d, x, y] := by
        rcases ds with _ | ⟨d, _ | ⟨x, _ | ⟨y, _ | ⟨z, r⟩⟩⟩⟩ <;> simp at h
        exact ⟨d, x, y, rfl⟩
      cases d with
      | str p =>
        show (decide (p = "pair") && (isV a x && isV b y)) = ((true && ([("pair" : Str)].contains p)) && (isV a x && (isV b y && true)))
        rw [Bool.and_true, Bool.true_and]
        congr 1
        by_cases e : p = "pair"
        · rw [decide_eq_true e, (contains_one _ _).mpr e]
        · rw [decide_eq_false e, Bool.eq_false_iff.mpr fun z => e ((contains_one _ _).mp z)]
      | _ => rfl
    · rw [isV_pairL h]
      rcases ds with _ | ⟨d, ds⟩
      · rfl
      · have : decide (ds.length = 2) = false := decide_eq_false fun z => h (by rw [List.length_cons, z])
        show false = ((decide (ds.length = 2) && txB d ["pair"]) && _)
        rw [this, Bool.false_and, Bool.false_and]
  | .pair a b, .none, _, _ => rfl
  | .pair a b, .bool _, _, _ => rfl
  | .pair a b, .int _, _, _ => rfl
  | .pair a b, .str _, _, _ => rfl
  | .pair a b, .list _, _, _ => rfl
  | .pair a b, .dict _, _, _ => rfl
  | .eith a b, .tuple ds, _, _ => by
    by_cases h : ds.length = 2
    · obtain ⟨d, x, rfl⟩ : ∃ d x, ds = [d, x] := by
        rcases ds with _ | ⟨d, _ | ⟨x, _ | ⟨y, r⟩⟩⟩ <;> simp at h
        exact ⟨d, x, rfl⟩
      cases d with
      | str p =>
        show (if p = "left" then isV a x else decide (p = "right") && isV b x) = ((true && ([("left" : Str), "right"].contains p)) && (isV (if p = "left" then a else b) x && true))
        rw [Bool.and_true, Bool.true_and]
        by_cases e : p = "left"
        · rw [if_pos e, if_pos e, (contains_two _ _ _).mpr (.inl e), Bool.true_and]
        · rw [if_neg e, if_neg e]
          congr 1
          by_cases e2 : p = "right"
          · rw [decide_eq_true e2, (contains_two _ _ _).mpr (.inr e2)]
          · rw [decide_eq_false e2, Bool.eq_false_iff.mpr fun z => ((contains_two _ _ _).mp z).elim e e2]
      | _ => rfl
    · rw [isV_eithL h]
      rcases ds with _ | ⟨d, ds⟩
      · rfl
      · have : decide (ds.length = 1) = false := decide_eq_false fun z => h (by rw [List.length_cons, z])
        show false = ((decide (ds.length = 1) && txB d ["left", "right"]) && _)
        rw [this, Bool.false_and, Bool.false_and]
  | .eith a b, .none, _, _ => rfl
  | .eith a b, .bool _, _, _ => rfl
  | .eith a b, .int _, _, _ => rfl
  | .eith a b, .str _, _, _ => rfl
  | .eith a b, .list _, _, _ => rfl
  | .eith a b, .dict _, _, _ => rfl
  | .var x, d, h, _ => by cases h
  | .fn a b, d, _, h => by cases h
/-- what is left to be looked at falls -/
def wz (ps : List (Kd × PyData)) : Nat := (ps.map fun p => sz p.2 + 1).sum
theorem wz_app (a b : List (Kd × PyData)) : wz (a ++ b) = wz a + wz b := by
  unfold wz
  rw [List.map_append, List.sum_append]
theorem wz_len : ∀ ps : List (Kd × PyData), ps.length ≤ wz ps
  | [] => Nat.zero_le _
  | p :: ps => by
    have e : wz (p :: ps) = (sz p.2 + 1) + wz ps := rfl
    have := wz_len ps
    rw [List.length_cons]
    omega
theorem wz_all (a : Kd) : ∀ xs : List PyData, wz (xs.map fun x => (a, x)) ≤ szA xs
  | [] => Nat.zero_le _
  | x :: xs => by
    have e : wz ((x :: xs).map fun x => (a, x)) = (sz x + 1) + wz (xs.map fun x => (a, x)) := rfl
    have := wz_all a xs
    rw [e, szA]
    omega
theorem wz_pbs : ∀ (k : Kd) (d : PyData), wz (pbs k d) ≤ sz d
  | .lst a, .tuple xs => by
    have := wz_all a xs
    rw [sz]
    show wz (xs.map fun x => (a, x)) ≤ _
    omega
  | .pair a b, .tuple [d, x, y] => by
    have e : wz (pbs (.pair a b) (.tuple [d, x, y])) = (sz x + 1) + ((sz y + 1) + 0) := rfl
    rw [e, sz, szA, szA, szA, szA]
    omega
  | .eith a b, .tuple [.str p, x] => by
    have e : wz (pbs (.eith a b) (.tuple [.str p, x])) = (sz x + 1) + 0 := rfl
    rw [e, sz, szA, szA, szA]
    omega
  | .num, d => Nat.zero_le _
  | .unit, d => Nat.zero_le _
  | .var _, d => Nat.zero_le _
  | .fn _ _, d => Nat.zero_le _
  | .lst a, .none => Nat.zero_le _
  | .lst a, .bool _ => Nat.zero_le _
  | .lst a, .int _ => Nat.zero_le _
  | .lst a, .str _ => Nat.zero_le _
  | .lst a, .list _ => Nat.zero_le _
  | .lst a, .dict _ => Nat.zero_le _
  | .pair a b, d => by
    by_cases h : pbs (.pair a b) d = []
    · rw [h]
      exact Nat.zero_le _
    · cases d with
      | tuple ds =>
        rcases ds with _ | ⟨d, _ | ⟨x, _ | ⟨y, _ | ⟨z, r⟩⟩⟩⟩ <;> first | exact absurd rfl h | skip
        have e : wz (pbs (.pair a b) (.tuple [d, x, y])) = (sz x + 1) + ((sz y + 1) + 0) := rfl
        rw [e, sz, szA, szA, szA, szA]
        omega
      | _ => exact absurd rfl h
  | .eith a b, d => by
    by_cases h : pbs (.eith a b) d = []
    · rw [h]
      exact Nat.zero_le _
    · cases d with
      | tuple ds =>
        rcases ds with _ | ⟨d, _ | ⟨x, _ | ⟨y, r⟩⟩⟩ <;> first | exact absurd rfl h | skip
        · cases d <;> exact absurd rfl h
        · cases d <;> first | exact absurd rfl h | skip
          rename_i p
          have e : wz (pbs (.eith a b) (.tuple [.str p, x])) = (sz x + 1) + 0 := rfl
          rw [e, sz, szA, szA, szA]
          omega
        · cases d <;> exact absurd rfl h
      | _ => exact absurd rfl h
theorem pbs_ok {k : Kd} {d : PyData} (hc : k.closed = true) (hn : k.noFn = true) : ∀ p ∈ pbs k d, p.1.closed = true ∧ p.1.noFn = true := by
  have kk := Kd.kids_ok hc hn
  intro p hp
  have hk : p.1 ∈ k.kids := by
    unfold pbs at hp
    split at hp
    · rcases List.mem_cons.mp hp with e | e
      · rw [e]; exact List.mem_cons_self
      · rw [List.mem_singleton.mp e]; exact List.mem_cons_of_mem _ List.mem_cons_self
    · rw [List.mem_singleton.mp hp]; show (if _ then _ else _) ∈ _
      split
      · exact List.mem_cons_self
      · exact List.mem_cons_of_mem _ List.mem_cons_self
    · obtain ⟨x, _, rfl⟩ := List.mem_map.mp hp
      exact List.mem_cons_self
    · cases hp
  exact ⟨(kk _ hk).1, (kk _ hk).2.1⟩
/-- is_number(value) -/
def spNb : Sp := fun vs H Q _ => ∃ (F : Addr → Prop) (v : V) (d : PyData), vs = [v] ∧ Dt F H v d ∧ Q (.bl (isNum d)) H
/-- has_form(kind, value) -/
def spHv : Sp := fun vs H Q _ => ∃ (F : Addr → Prop) (kv v : V) (k : Kd) (d : PyData), vs = [kv, v] ∧ Dt F H kv k.d ∧ k.closed = true ∧ k.noFn = true ∧ Dt F H v d ∧ ∀ H', Same H H' → Q (.bl (hasF k d)) H'
/-- parts_below(kind, value) -/
def spPb : Sp := fun vs H Q _ => ∃ (F : Addr → Prop) (kv v : V) (k : Kd) (d : PyData) (n : Nat), vs = [kv, v] ∧ (∀ p, H p = none → F p) ∧ Dt F H kv k.d ∧ k.closed = true ∧ k.noFn = true ∧ Dt F H v d ∧ hasF k d = true ∧ sz d ≤ 10000000 ∧
  ∀ (L : Addr) (ls : List V) (H' : Hp), Same H H' → H L = none → H' L = some (.lst ls) → DtA F H' ls ((pbs k d).map pvD) → Q (.ref L) H'
/-- stands_under(kind, value) -/
def spSu : Sp := fun vs H Q _ => ∃ (F : Addr → Prop) (kv v : V) (k : Kd) (d : PyData), vs = [kv, v] ∧ Dt F H kv k.d ∧ k.closed = true ∧ k.noFn = true ∧ Dt F H v d ∧ sz d ≤ 10000000 ∧ ∀ H', Same H H' → Q (.bl (isV k d)) H'
end KB
namespace K3
open PySem PySem.Spec PyProof.Rows L2 KB
section
variable {K : PySem.W.Frag} {mg : Str → Option Value} {base : Heap} {P : Program} {w : World}
abbrev nNb : List Str := ["value"]
theorem scNb : FnScope nNb ["value"] (defScope (top 18)) := ⟨rfl, rfl, rfl, by decide +kernel, rfl, by decide +kernel, by decide +kernel⟩
theorem ok_nb {f : Addr} {fd : FuncData} (F : FnP K "is_number" (top 18) f fd) (B : Bl K mg) : FnOk P w K mg base CX0 1 f fd ["value"] spNb := by
  refine F.ok scNb (fun vs H Q E h => ?_) (fun cdv A outer s H vs Q E hr h => ?_)
  · obtain ⟨F, v, d, rfl, _⟩ := h
    rfl
  · obtain ⟨Fa, v, d, rfl, hd, q⟩ := h
    have sc := scNb
    refine ⟨_, PSs.nox (pss_one (ps_ret (pe_and (pe_callB call_isi (by rfl) B.isinstance (by decide +kernel) (pa_cons (pv 0) (pa_cons (pe_bltn (v := .ty "int") (by rfl) B.int (by decide +kernel) rfl) pa_nil))) (pe_one (pe_not (pe_callB call_isi (by rfl) B.isinstance (by decide +kernel) (pa_cons (pv 0) (pa_cons (pe_bltn (v := .ty "bool") (by rfl) B.bool (by decide +kernel) rfl) pa_nil)))))))), ?_⟩
    obtain ⟨ty, tyx, k1, k2, k3, k4⟩ := tyD (K := K) hd
    refine ⟨_, rfl, _, _, ty, _, _, rfl, .ty _, tyx, k1, _, rfl, ?_⟩
    cases hd with
    | int i => exact ifT rfl ⟨_, rfl, _, _, ty, _, _, rfl, .ty _, tyx, k2, _, rfl, q⟩
    | bl b => exact ifT rfl ⟨_, rfl, _, _, ty, _, _, rfl, .ty _, tyx, k2, _, rfl, q⟩
    | non => exact ifF rfl q
    | str x => exact ifF rfl q
    | lst f h r => exact ifF rfl q
    | tup f h r => exact ifF rfl q
    | emp f h => exact ifF rfl q
abbrev nHv : List Str := ["kind", "value", "word"]
theorem scHv : FnScope nHv ["kind", "value"] (defScope (top 21)) := ⟨rfl, rfl, rfl, by decide +kernel, rfl, by decide +kernel, by decide +kernel⟩
theorem ok_hv {f : Addr} {fd : FuncData} (F : FnP K "_has_form" (top 21) f fd) (B : Bl K mg) (hN : Has P w K mg base "is_number" ["value"] 1 spNb) (hX : Has P w K mg base "is_text_of" ["value", "texts"] 1 (spTxt K)) : FnOk P w K mg base CX0 2 f fd ["kind", "value"] spHv := by
  obtain ⟨fN, fdN, kN, gN, bN, GN⟩ := hN
  obtain ⟨fX, fdX, kX, gX, bX, GX⟩ := hX
  refine F.ok scHv (fun vs H Q E h => ?_) (fun cdv A outer s H vs Q E hr h => ?_)
  · obtain ⟨F, kv, v, k, d, rfl, _⟩ := h
    rfl
  · obtain ⟨Fa, kv, v, k, d, rfl, hk, hcl, hnf, hd, q⟩ := h
    have sc := scHv
    have hrN : Room 1 _ := hr
    have hrX : Room 1 _ := hr
    refine ⟨_, PSs.nox (pss_cons (ps_set (i := 2) sc.nd rfl (Or.inl rfl) (pe_ix ix_tup (pv 0) pe_int (fun _ _ => rfl))) (pss_cons (ps_if (pt_cmpR op_eq (pv 2) pe_str (nomark _)) (pss_one (ps_ret (pe_call GN hrN rfl gN kN bN .nil pass0 (pa_cons (pv 1) pa_nil)))) pss_nil) (pss_cons (ps_if (pt_not (pt_val (pe_callB call_isi (by rfl) B.isinstance (by decide +kernel) (pa_cons (pv 1) (pa_cons (pe_bltn (v := .ty "tuple") (by rfl) B.tuple (by decide +kernel) rfl) pa_nil))))) (pss_one (ps_ret pe_bl)) pss_nil) (pss_cons (ps_if (pt_cmpR op_eq (pv 2) pe_str (nomark _)) (pss_one (ps_ret (pe_cmpR op_eq (pe_callB call_len (by rfl) B.len (by decide +kernel) (pa_cons (pv 1) pa_nil)) pe_int (nomark _)))) pss_nil) (pss_cons (ps_if (pt_cmpR op_eq (pv 2) pe_str (nomark _)) (pss_one (ps_ret (pe_and (pe_cmpR op_eq (pe_callB call_len (by rfl) B.len (by decide +kernel) (pa_cons (pv 1) pa_nil)) pe_int (nomark _)) (pe_one (pe_call GX hrX rfl gX kX bX .nil pass0 (pa_cons (pe_ix ix_tup (pv 1) pe_int (fun _ _ => rfl)) (pa_cons (pe_tup (pa_cons pe_str pa_nil)) pa_nil))))))) pss_nil) (pss_cons (ps_if (pt_cmpR op_eq (pv 2) pe_str (nomark _)) (pss_one (ps_ret (pe_and (pe_cmpR op_eq (pe_callB call_len (by rfl) B.len (by decide +kernel) (pa_cons (pv 1) pa_nil)) pe_int (nomark _)) (pe_one (pe_call GX hrX rfl gX kX bX .nil pass0 (pa_cons (pe_ix ix_tup (pv 1) pe_int (fun _ _ => rfl)) (pa_cons (pe_tup (pa_cons pe_str (pa_cons pe_str pa_nil))) pa_nil))))))) pss_nil) (pss_one (ps_ret pe_bl)))))))), ?_⟩
    have big : ∀ k : Nat, k ≤ 1000 → k ≤ sizeLine := fun k h => Nat.le_of_lt (small1000 h)
    have no : ∀ {x y : Str}, x ≠ y → decide (V.str x = V.str y) = false := fun h => decide_eq_false fun z => h (V.str.inj z)
    obtain ⟨a, rfl, fa, ka⟩ := kd_at hk
    obtain ⟨ty, tyx, k1, k2, k3, k4⟩ := tyD (K := K) hd
    cases k with
    | var x => cases hcl
    | fn x y => cases hnf
    | num =>
      refine ⟨_, rfl, a, _, 0, _, rfl, rfl, SqT.of ka, rfl, ?_⟩
      refine ⟨_, rfl, rfl, _, rfl, ifT (decide_eq_true rfl) ?_⟩
      exact ⟨_, rfl, Fa, v, d, rfl, hd, q H (Same.refl H)⟩
    | unit =>
      refine ⟨_, rfl, a, _, 0, _, rfl, rfl, SqT.of ka, rfl, ?_⟩
      refine ⟨_, rfl, rfl, _, rfl, ifF (no (by decide)) ?_⟩
      refine ⟨_, rfl, _, _, ty, _, _, rfl, .ty _, tyx, k3, _, rfl, ?_⟩
      cases hd with
      | tup f h r =>
        rename_i t xs ds
        refine ifF rfl ⟨_, rfl, rfl, _, rfl, ifT (decide_eq_true rfl) ?_⟩
        refine ⟨_, rfl, _, _, rfl, .inr ⟨_, SqT.of h, rfl⟩, rfl, ?_⟩
        have q' := q H (Same.refl H)
        have e : hasF .unit (.tuple ds) = decide (V.int ((xs.length : Nat) : Int) = V.int 0) := by
          show decide (ds.length = 0) = _
          rw [← r.length]
          by_cases z : xs.length = 0
          · rw [decide_eq_true z, decide_eq_true (by rw [z]; rfl)]
          · rw [decide_eq_false z, decide_eq_false fun y => z (by have := V.int.inj y; omega)]
        rw [e] at q'
        exact q'
      | non => exact iteT (q H (Same.refl H))
      | bl b => exact iteT (q H (Same.refl H))
      | int i => exact iteT (q H (Same.refl H))
      | str x => exact iteT (q H (Same.refl H))
      | lst f h r => exact iteT (q H (Same.refl H))
      | emp f h => exact iteT (q H (Same.refl H))
    | lst x =>
      obtain ⟨vx, h0, dx⟩ := ka
      refine ⟨_, rfl, a, _, 0, _, rfl, rfl, SqT.of h0, rfl, ?_⟩
      refine ⟨_, rfl, rfl, _, rfl, ifF (no (by decide)) ?_⟩
      refine ⟨_, rfl, _, _, ty, _, _, rfl, .ty _, tyx, k3, _, rfl, ?_⟩
      cases hd with
      | tup f h r =>
        refine ifF rfl ⟨_, rfl, rfl, _, rfl, ifF (no (by decide)) ?_⟩
        refine ⟨_, rfl, rfl, _, rfl, ifF (no (by decide)) ?_⟩
        exact ⟨_, rfl, rfl, _, rfl, ifF (no (by decide)) (q H (Same.refl H))⟩
      | non => exact iteT (q H (Same.refl H))
      | bl b => exact iteT (q H (Same.refl H))
      | int i => exact iteT (q H (Same.refl H))
      | str x => exact iteT (q H (Same.refl H))
      | lst f h r => exact iteT (q H (Same.refl H))
      | emp f h => exact iteT (q H (Same.refl H))
    | pair x y =>
      obtain ⟨vx, vy, h0, dx, dy⟩ := ka
      refine ⟨_, rfl, a, _, 0, _, rfl, rfl, SqT.of h0, rfl, ?_⟩
      refine ⟨_, rfl, rfl, _, rfl, ifF (no (by decide)) ?_⟩
      refine ⟨_, rfl, _, _, ty, _, _, rfl, .ty _, tyx, k3, _, rfl, ?_⟩
      cases hd with
      | tup f h r =>
        rename_i t xs ds
        refine ifF rfl ⟨_, rfl, rfl, _, rfl, ifF (no (by decide)) ?_⟩
        refine ⟨_, rfl, rfl, _, rfl, ifT (decide_eq_true rfl) ?_⟩
        refine ⟨_, rfl, _, _, rfl, .inr ⟨_, SqT.of h, rfl⟩, rfl, ?_⟩
        have ln := r.length
        refine ⟨_, rfl, ?_⟩
        by_cases z : xs.length = 3
        · refine ifT (decide_eq_true (by rw [z]; rfl)) ?_
          cases r with
          | nil => cases z
          | @cons u us d0 ds0 hu ru =>
            refine ⟨_, rfl, t, _, 0, _, rfl, rfl, SqT.of h, atI_nat (j := 0) rfl, big _ (by show (1 : Nat) ≤ 1000; decide), fun p np => ?_⟩
            have sm := @Same.new p _ (.tup [.str "pair"]) np
            refine ⟨Fa, u, p, d0, ["pair"], rfl, hu.keep sm, SqT.of upd_same, ?_⟩
            have q' := q _ sm
            have e : hasF (.pair x y) (.tuple (d0 :: ds0)) = txB d0 ["pair"] := by
              show (decide (ds0.length = 2) && _) = _
              rw [decide_eq_true (by rw [← ru.length]; rw [List.length_cons] at z; omega), Bool.true_and]
            rw [e] at q'
            exact q'
        · refine ifF (decide_eq_false fun y => z (by have := V.int.inj y; omega)) ?_
          have q' := q H (Same.refl H)
          have e : hasF (.pair x y) (.tuple ds) = false := by
            cases ds with
            | nil => rfl
            | cons d0 ds0 =>
              show (decide (ds0.length = 2) && _) = _
              rw [decide_eq_false (fun y => z (by rw [ln, List.length_cons, y])), Bool.false_and]
          rw [e] at q'
          exact q'
      | non => exact iteT (q H (Same.refl H))
      | bl b => exact iteT (q H (Same.refl H))
      | int i => exact iteT (q H (Same.refl H))
      | str x => exact iteT (q H (Same.refl H))
      | lst f h r => exact iteT (q H (Same.refl H))
      | emp f h => exact iteT (q H (Same.refl H))
    | eith x y =>
      obtain ⟨vx, vy, h0, dx, dy⟩ := ka
      refine ⟨_, rfl, a, _, 0, _, rfl, rfl, SqT.of h0, rfl, ?_⟩
      refine ⟨_, rfl, rfl, _, rfl, ifF (no (by decide)) ?_⟩
      refine ⟨_, rfl, _, _, ty, _, _, rfl, .ty _, tyx, k3, _, rfl, ?_⟩
      cases hd with
      | tup f h r =>
        rename_i t xs ds
        refine ifF rfl ⟨_, rfl, rfl, _, rfl, ifF (no (by decide)) ?_⟩
        refine ⟨_, rfl, rfl, _, rfl, ifF (no (by decide)) ?_⟩
        refine ⟨_, rfl, rfl, _, rfl, ifT (decide_eq_true rfl) ?_⟩
        refine ⟨_, rfl, _, _, rfl, .inr ⟨_, SqT.of h, rfl⟩, rfl, ?_⟩
        have ln := r.length
        refine ⟨_, rfl, ?_⟩
        by_cases z : xs.length = 2
        · refine ifT (decide_eq_true (by rw [z]; rfl)) ?_
          cases r with
          | nil => cases z
          | @cons u us d0 ds0 hu ru =>
            refine ⟨_, rfl, t, _, 0, _, rfl, rfl, SqT.of h, atI_nat (j := 0) rfl, big _ (by show (2 : Nat) ≤ 1000; decide), fun p np => ?_⟩
            have sm := @Same.new p _ (.tup [.str "left", .str "right"]) np
            refine ⟨Fa, u, p, d0, ["left", "right"], rfl, hu.keep sm, SqT.of upd_same, ?_⟩
            have q' := q _ sm
            have e : hasF (.eith x y) (.tuple (d0 :: ds0)) = txB d0 ["left", "right"] := by
              show (decide (ds0.length = 1) && _) = _
              rw [decide_eq_true (by rw [← ru.length]; rw [List.length_cons] at z; omega), Bool.true_and]
            rw [e] at q'
            exact q'
        · refine ifF (decide_eq_false fun y => z (by have := V.int.inj y; omega)) ?_
          have q' := q H (Same.refl H)
          have e : hasF (.eith x y) (.tuple ds) = false := by
            cases ds with
            | nil => rfl
            | cons d0 ds0 =>
              show (decide (ds0.length = 1) && _) = _
              rw [decide_eq_false (fun y => z (by rw [ln, List.length_cons, y])), Bool.false_and]
          rw [e] at q'
          exact q'
      | non => exact iteT (q H (Same.refl H))
      | bl b => exact iteT (q H (Same.refl H))
      | int i => exact iteT (q H (Same.refl H))
      | str x => exact iteT (q H (Same.refl H))
      | lst f h r => exact iteT (q H (Same.refl H))
      | emp f h => exact iteT (q H (Same.refl H))
end
end K3
namespace KB
open PySem L2 PySem.Spec PyProof.Rows
theorem hasF_pair {a b : Kd} {d : PyData} (h : hasF (.pair a b) d = true) : ∃ x y, d = .tuple [.str "pair", x, y] := by
  cases d with
  | tuple ds =>
    rcases ds with _ | ⟨d, _ | ⟨x, _ | ⟨y, _ | ⟨z, r⟩⟩⟩⟩ <;> first | (simp [hasF] at h; done) | skip
    have h2 : txB d ["pair"] = true := (Bool.and_eq_true_iff.mp (show (decide ([x, y].length = 2) && txB d ["pair"]) = true from h)).2
    cases d with
    | str p => exact ⟨x, y, by rw [(contains_one p "pair").mp h2]⟩
    | _ => cases h2
  | _ => cases h
theorem hasF_eith {a b : Kd} {d : PyData} (h : hasF (.eith a b) d = true) : ∃ p x, d = .tuple [.str p, x] ∧ (p = "left" ∨ p = "right") := by
  cases d with
  | tuple ds =>
    rcases ds with _ | ⟨d, _ | ⟨x, _ | ⟨y, r⟩⟩⟩ <;> first | (simp [hasF] at h; done) | skip
    have h2 : txB d ["left", "right"] = true := (Bool.and_eq_true_iff.mp (show (decide ([x].length = 1) && txB d ["left", "right"]) = true from h)).2
    cases d with
    | str p => exact ⟨p, x, rfl, (contains_two p _ _).mp h2⟩
    | _ => cases h2
  | _ => cases h
theorem hasF_lst {a : Kd} {d : PyData} (h : hasF (.lst a) d = true) : ∃ xs, d = .tuple xs := by
  cases d with
  | tuple ds => exact ⟨ds, rfl⟩
  | _ => cases h
/-- is_value(kind, value) -/
def spIv : Sp := fun vs H Q _ => ∃ (F : Addr → Prop) (kv v : V) (k : Kd) (d : PyData), vs = [kv, v] ∧ Dt F H kv k.d ∧ k.closed = true ∧ k.noFn = true ∧ k.dep ≤ 100 ∧ k.kz ≤ 10000 ∧ Dt F H v d ∧ sz d ≤ 10000000 ∧ ∀ H', Same H H' → Q (.bl (isV k d)) H'
theorem pv_row (a : Kd) (xs : List PyData) (i : Nat) (x : PyData) (h : xs[i]? = some x) : (xs.take (i + 1)).map (fun x => pvD (a, x)) = (xs.take i).map (fun x => pvD (a, x)) ++ [pvD (a, x)] := by
  rw [List.take_add_one, h, List.map_append]
  rfl
end KB
namespace K3
open PySem PySem.Spec PyProof.Rows L2 KB
section
variable {K : PySem.W.Frag} {mg : Str → Option Value} {base : Heap} {P : Program} {w : World}
abbrev nPb : List Str := ["kind", "value", "word", "thing"]
theorem scPb : FnScope nPb ["kind", "value"] (defScope (top 23)) := ⟨rfl, rfl, rfl, by decide +kernel, rfl, by decide +kernel, by decide +kernel⟩
theorem ok_pb {f : Addr} {fd : FuncData} (F : FnP K "_parts_below" (top 23) f fd) : FnOk P w K mg base CX0 1 f fd ["kind", "value"] spPb := by
  refine F.ok scPb (fun vs H Q E h => ?_) (fun cdv A outer s H vs Q E hr h => ?_)
  · obtain ⟨F, kv, v, k, d, n, rfl, _⟩ := h
    rfl
  · obtain ⟨Fa, kv, v, k, d, n, rfl, hF, hk, hcl, hnf, hd, hh, hs, q⟩ := h
    have sc := scPb
    refine ⟨_, PSs.nox (pss_cons (ps_set (i := 2) sc.nd rfl (Or.inl rfl) (pe_ix ix_tup (pv 0) pe_int (fun _ _ => rfl))) (pss_cons (ps_if (pt_cmpR op_eq (pv 2) pe_str (nomark _)) (pss_one (ps_ret (pe_lst (pa_cons (pe_tup (pa_cons (pe_ix ix_tup (pv 0) pe_int (fun _ _ => rfl)) (pa_cons (pe_ix ix_tup (pv 1) pe_int (fun _ _ => rfl)) pa_nil))) (pa_cons (pe_tup (pa_cons (pe_ix ix_tup (pv 0) pe_int (fun _ _ => rfl)) (pa_cons (pe_ix ix_tup (pv 1) pe_int (fun _ _ => rfl)) pa_nil))) pa_nil))))) pss_nil) (pss_cons (ps_if (pt_cmpR op_eq (pv 2) pe_str (nomark _)) (pss_one (ps_ret (pe_lst (pa_cons (pe_tup (pa_cons (pe_ifExp (pt_cmpR op_eq (pe_ix ix_tup (pv 1) pe_int (fun _ _ => rfl)) pe_str (nomark _)) (pe_ix ix_tup (pv 0) pe_int (fun _ _ => rfl)) (pe_ix ix_tup (pv 0) pe_int (fun _ _ => rfl))) (pa_cons (pe_ix ix_tup (pv 1) pe_int (fun _ _ => rfl)) pa_nil))) pa_nil)))) pss_nil) (pss_cons (ps_if (pt_cmpR op_eq (pv 2) pe_str (nomark _)) (pss_one (ps_ret (pe_lc (own := [("thing", 3)]) (g := gName 3) (tt := tYes) (by rfl) sc.nd (pi_tup (pv 1)) (blkOk_by (own := [("thing", 3)]) (N := nPb) (sc := (defScope (top 23))) (by decide +kernel)) (fun _ _ _ _ _ => (pg_name (i := 3) sc.nd rfl (Or.inl rfl))) (fun _ _ _ _ _ => pts_nil) (fun _ _ _ _ _ => (pe_tup (pa_cons (pe_ix (ixT (K := K) rfl) (pv 0) pe_int (fun _ _ => rfl)) (pa_cons (pv 3) pa_nil))))))) pss_nil) (pss_one (ps_ret (pe_lst pa_nil))))))), ?_⟩
    have big : ∀ k : Nat, k ≤ 1000 → k ≤ sizeLine := fun k h => Nat.le_of_lt (small1000 h)
    have no : ∀ {x y : Str}, x ≠ y → decide (V.str x = V.str y) = false := fun h => decide_eq_false fun z => h (V.str.inj z)
    obtain ⟨a, rfl, fa, ka⟩ := kd_at hk
    cases k with
    | var x => cases hcl
    | fn x y => cases hnf
    | num =>
      refine ⟨_, rfl, a, _, 0, _, rfl, rfl, SqT.of ka, rfl, ?_⟩
      refine ⟨_, rfl, rfl, _, rfl, ifF (no (by decide)) ?_⟩
      refine ⟨_, rfl, rfl, _, rfl, ifF (no (by decide)) ?_⟩
      refine ⟨_, rfl, rfl, _, rfl, ifF (no (by decide)) ?_⟩
      exact ⟨Nat.zero_le _, fun L nL => q L [] _ (Same.new nL) nL upd_same .nil⟩
    | unit =>
      refine ⟨_, rfl, a, _, 0, _, rfl, rfl, SqT.of ka, rfl, ?_⟩
      refine ⟨_, rfl, rfl, _, rfl, ifF (no (by decide)) ?_⟩
      refine ⟨_, rfl, rfl, _, rfl, ifF (no (by decide)) ?_⟩
      refine ⟨_, rfl, rfl, _, rfl, ifF (no (by decide)) ?_⟩
      exact ⟨Nat.zero_le _, fun L nL => q L [] _ (Same.new nL) nL upd_same .nil⟩
    | pair kx ky =>
      obtain ⟨vx, vy, h0, dx, dy⟩ := ka
      obtain ⟨x, y, rfl⟩ := hasF_pair hh
      obtain ⟨t, xs, rfl, ft, ht, rt⟩ := hd.tupI
      obtain ⟨x0, x1, x2, rfl, e0, e1, e2⟩ := rt.three
      refine ⟨_, rfl, a, _, 0, _, rfl, rfl, SqT.of h0, rfl, ?_⟩
      refine ⟨_, rfl, rfl, _, rfl, ifT (decide_eq_true rfl) ?_⟩
      refine ⟨_, rfl, a, _, 1, _, rfl, rfl, SqT.of h0, rfl, _, rfl, t, _, 1, _, rfl, rfl, SqT.of ht, rfl, big _ (by show (2 : Nat) ≤ 1000; decide), fun p np => ?_⟩
      have s1 := @Same.new p _ (.tup [vx, x1]) np
      refine ⟨_, rfl, a, _, 2, _, rfl, rfl, SqT.of (s1 _ _ h0), rfl, _, rfl, t, _, 2, _, rfl, rfl, SqT.of (s1 _ _ ht), rfl, big _ (by show (2 : Nat) ≤ 1000; decide), fun p2 np2 => ⟨big _ (by show (2 : Nat) ≤ 1000; decide), fun L nL => ?_⟩⟩
      have s2 := s1.trans (@Same.new p2 _ (.tup [vy, x2]) np2)
      have s3 := s2.trans (@Same.new L _ (.lst [.ref p, .ref p2]) nL)
      have a1 : Dt Fa (upd H p (.tup [vx, x1])) (.ref p) (pvD (kx, x)) := layD hF np (.cons dx (.cons e1 .nil))
      have t3 := (@Same.new p2 _ (.tup [vy, x2]) np2).trans (@Same.new L _ (.lst [.ref p, .ref p2]) nL)
      have a2 : Dt Fa (upd (upd H p (.tup [vx, x1])) p2 (.tup [vy, x2])) (.ref p2) (pvD (ky, y)) := layD (fun c hc => hF c (s1.free hc)) np2 (.cons (dy.keep s1) (.cons (e2.keep s1) .nil))
      exact q L _ _ s3 (s2.free nL) upd_same (.cons (a1.keep t3) (.cons (a2.keep (Same.new nL)) .nil))
    | eith kx ky =>
      obtain ⟨vx, vy, h0, dx, dy⟩ := ka
      obtain ⟨p, x, rfl, hp⟩ := hasF_eith hh
      obtain ⟨t, xs, rfl, ft, ht, rt⟩ := hd.tupI
      obtain ⟨x0, x1, rfl, e0, e1⟩ := rt.two
      have ez := e0.strI
      subst ez
      refine ⟨_, rfl, a, _, 0, _, rfl, rfl, SqT.of h0, rfl, ?_⟩
      refine ⟨_, rfl, rfl, _, rfl, ifF (no (by decide)) ?_⟩
      refine ⟨_, rfl, rfl, _, rfl, ifT (decide_eq_true rfl) ?_⟩
      refine ⟨_, rfl, t, _, 0, _, rfl, rfl, SqT.of ht, rfl, rfl, _, rfl, ?_⟩
      rcases hp with rfl | rfl
      · refine ifT (decide_eq_true rfl) ⟨_, rfl, a, _, 1, _, rfl, rfl, SqT.of h0, rfl, _, rfl, t, _, 1, _, rfl, rfl, SqT.of ht, rfl, big _ (by show (2 : Nat) ≤ 1000; decide), fun p np => ⟨big _ (by show (1 : Nat) ≤ 1000; decide), fun L nL => ?_⟩⟩
        have s1 := @Same.new p _ (.tup [vx, x1]) np
        have a1 : Dt Fa (upd H p (.tup [vx, x1])) (.ref p) (pvD (kx, x)) := layD hF np (.cons dx (.cons e1 .nil))
        exact q L _ _ (s1.trans (Same.new nL)) (s1.free nL) upd_same (.cons (a1.keep (Same.new nL)) .nil)
      · refine ifF (no (by decide)) ⟨_, rfl, a, _, 2, _, rfl, rfl, SqT.of h0, rfl, _, rfl, t, _, 1, _, rfl, rfl, SqT.of ht, rfl, big _ (by show (2 : Nat) ≤ 1000; decide), fun p np => ⟨big _ (by show (1 : Nat) ≤ 1000; decide), fun L nL => ?_⟩⟩
        have s1 := @Same.new p _ (.tup [vy, x1]) np
        have a1 : Dt Fa (upd H p (.tup [vy, x1])) (.ref p) (pvD (ky, x)) := layD hF np (.cons dy (.cons e1 .nil))
        exact q L _ _ (s1.trans (Same.new nL)) (s1.free nL) upd_same (.cons (a1.keep (Same.new nL)) .nil)
    | lst kx =>
      obtain ⟨vx, h0, dx⟩ := ka
      obtain ⟨ds, rfl⟩ := hasF_lst hh
      obtain ⟨t, xs, rfl, ft, ht, rt⟩ := hd.tupI
      have lx := rt.length
      have lz := szA_len ds
      rw [sz] at hs
      refine ⟨_, rfl, a, _, 0, _, rfl, rfl, SqT.of h0, rfl, ?_⟩
      refine ⟨_, rfl, rfl, _, rfl, ifF (no (by decide)) ?_⟩
      refine ⟨_, rfl, rfl, _, rfl, ifF (no (by decide)) ?_⟩
      refine ⟨_, rfl, rfl, _, rfl, ifT (decide_eq_true rfl) ?_⟩
      refine ⟨_, rfl, t, rfl, ⟨_, SqT.of ht⟩, fun D nD => lc_tup (K := K) (a := t) (xs := xs) (fun i H2 => ∃ acc, H2 D = some (.lst acc) ∧ DtA (fun c => Fa c ∧ c ≠ D) H2 acc ((ds.take i).map fun x => pvD (kx, x)) ∧ Same H H2) ⟨[], upd_same, .nil, Same.new nD⟩
        (fun i H2 _ hP => SqT.of (hP.choose_spec.2.2 t _ ht)) ?_ ?_⟩
      · rintro i x H2 hi ⟨acc, hD, da, sm⟩
        obtain ⟨dd, hdd, dxx⟩ := rt.get hi
        have il : i < xs.length := (List.getElem?_eq_some_iff.mp hi).1
        refine ⟨rfl, ?_⟩
        refine iteT (B := ∃ acc, H2 D = some (.lst acc) ∧ DtA (fun c => Fa c ∧ c ≠ D) H2 acc ((ds.take (i + 1)).map fun x => pvD (kx, x)) ∧ Same H H2) ?_
        refine ⟨_, rfl, a, _, 1, _, rfl, rfl, SqT.of (sm _ _ h0), rfl, _, rfl, big _ (by show (2 : Nat) ≤ 1000; decide), fun p np => ?_⟩
        have pD : D ≠ p := ne_of_none hD np
        have la := da.length
        rw [List.length_map, List.length_take] at la
        refine ⟨acc, by rw [upd_ne pD]; exact hD, Nat.lt_of_le_of_lt (by omega : _ ≤ 10000000) (by decide), acc ++ [.ref p], upd_same, ?_, ?_⟩
        · rw [pv_row _ _ i dd hdd]
          have kk : ∀ c o, c ≠ D → H2 c = some o → (upd (upd H2 p (.tup [vx, x])) D (.lst (acc ++ [.ref p]))) c = some o := fun c o n e => by
            rw [upd_ne n, upd_ne (ne_of_none e np)]
            exact e
          have k0 : ∀ {v : V} {d : PyData}, Dt Fa H v d → Dt (fun c => Fa c ∧ c ≠ D) (upd (upd H2 p (.tup [vx, x])) D (.lst (acc ++ [.ref p]))) v d := fun h => h.move fun c o f e => ⟨⟨f, ne_of_none e nD⟩, kk c o (ne_of_none e nD) (sm c o e)⟩
          refine (da.move fun c o f e => ⟨f, kk c o f.2 e⟩).append (.cons (.tup ⟨hF p (sm.free np), fun z => pD z.symm⟩ ?_ (.cons (k0 dx) (.cons (k0 dxx) .nil))) .nil)
          rw [upd_ne (fun z => pD z.symm), upd_same]
        · intro c o e
          have c1 : c ≠ D := ne_of_none e nD
          rw [upd_ne c1, upd_ne (ne_of_none (sm c o e) np)]
          exact sm c o e
      · rintro H2 ⟨acc, hD, da, sm⟩
        rw [lx, List.take_length] at da
        refine q D acc H2 sm nD hD ?_
        have : (pbs (.lst kx) (.tuple ds)).map pvD = ds.map fun x => pvD (kx, x) := by
          show (ds.map fun x => (kx, x)).map pvD = _
          rw [List.map_map]
          rfl
        rw [this]
        exact da.move fun c o f e => ⟨f.1, e⟩
abbrev nSu : List Str := ["kind", "value", "waiting", "asked", "part"]
theorem scSu : FnScope nSu ["kind", "value"] (defScope (top 20)) := ⟨rfl, rfl, rfl, by decide +kernel, rfl, by decide +kernel, by decide +kernel⟩
theorem ok_su {f : Addr} {fd : FuncData} (F : FnP K "_stands_under" (top 20) f fd) (hH : Has P w K mg base "has_form_values" ["kind", "value"] 2 spHv) (hB : Has P w K mg base "_parts_below" ["kind", "value"] 1 spPb) : FnOk P w K mg base CX0 3 f fd ["kind", "value"] spSu := by
  obtain ⟨fH, fdH, kH, gH, bH, GH⟩ := hH
  obtain ⟨fB, fdB, kB, gB, bB, GB⟩ := hB
  refine F.ok scSu (fun vs H Q E h => ?_) (fun cdv A outer s H vs Q E hr h => ?_)
  · obtain ⟨F, kv, v, k, d, rfl, _⟩ := h
    rfl
  · obtain ⟨Fa, kv, v, k, d, rfl, hk, hcl, hnf, hd, hsz, q⟩ := h
    have sc := scSu
    have hrH : Room 2 _ := hr
    have hrB : Room 1 _ := hr.mono (by omega)
    refine ⟨_, PSs.nox (pss_cons (ps_set (i := 2) sc.nd rfl (Or.inl rfl) (pe_lst (pa_cons (pe_tup (pa_cons (pv 0) (pa_cons (pv 1) pa_nil))) pa_nil))) (pss_cons (ps_while PassesOwn.never (pt_truth (pv 2) (by intro _; rfl)) (pss_cons (ps_asg (pe_bm0 PySem.F.plainAttrs_list PySem.F.slot_list_pop PySem.F.type_list_pop mt_pop (pv 2)) (pg_tup rfl (pgs_cons (pg_name (i := 3) sc.nd rfl (Or.inl rfl)) (pgs_cons (pg_name (i := 4) sc.nd rfl (Or.inl rfl)) pgs_nil)))) (pss_cons (ps_if (pt_not (pt_val (pe_call GH hrH rfl gH kH bH .nil pass0 (pa_cons (pv 3) (pa_cons (pv 4) pa_nil))))) (pss_one (ps_ret pe_bl)) pss_nil) (pss_one (ps_expr (pe_bm PySem.F.plainAttrs_list PySem.F.slot_list_extend PySem.F.type_list_extend mt_extend (pv 2) (pa_cons (pe_call GB hrB rfl gB kB bB .nil pass0 (pa_cons (pv 3) (pa_cons (pv 4) pa_nil))) pa_nil))))))) (pss_one (ps_ret pe_bl)))), ?_⟩
    have big : ∀ k : Nat, k ≤ 1000 → k ≤ sizeLine := fun k h => Nat.le_of_lt (small1000 h)
    have hm : ∀ k : Nat, k ≤ 10000001 → k ≤ sizeLine := fun k h => Nat.le_trans h (by decide)
    refine ⟨_, rfl, _, rfl, big _ (by show (2 : Nat) ≤ 1000; decide), fun t nt => ⟨big _ (by show (1 : Nat) ≤ 1000; decide), fun W nW => ?_⟩⟩
    have s1 := @Same.new t _ (.tup [kv, v]) nt
    have WH := s1.free nW
    have tW : t ≠ W := fun z => by rw [← z, upd_same] at nW; cases nW
    have start := s1.trans (@Same.new W _ (.lst [.ref t]) nW)
    have st1 : ∀ p, (upd H t (.tup [kv, v])) p = none → Ot [W] p → Ot [W] p := fun _ _ h => h
    refine ⟨fun m σ H1 => ∃ (u3 u4 : Option V) (ws : List V) (ps : List (Kd × PyData)), σ = [some kv, some v, some (.ref W), u3, u4] ∧ Kp [W] H H1 ∧ H1 W = some (.lst ws) ∧ DtA (Ot [W]) H1 ws (ps.map pvD) ∧ (∀ p ∈ ps, p.1.closed = true ∧ p.1.noFn = true) ∧
      isV k d = (ps.all fun p => isV p.1 p.2) ∧ m = wz ps ∧ wz ps ≤ 10000001, ⟨_, none, none, [.ref t], [(k, d)], rfl, Kp.same start, upd_same, ?_, ?_, ?_, rfl, ?_⟩, ?_⟩
    · refine .cons (.tup (fun z => tW (List.mem_singleton.mp z)) (by rw [upd_ne tW, upd_same]) (.cons ?_ (.cons ?_ .nil))) .nil
      · exact (hk.any.wide WH).keep start
      · exact (hd.any.wide WH).keep start
    · intro p hp
      rw [List.mem_singleton.mp hp]
      exact ⟨hcl, hnf⟩
    · show _ = (isV k d && true)
      rw [Bool.and_true]
    · show sz d + 1 + 0 ≤ _
      omega
    rintro m σ H1 ⟨u3, u4, ws, ps, rfl, kp, hW, dw, okp, hiv, rfl, cnt⟩
    refine ⟨_, rfl, _, .inl ⟨ws, SqL.of hW, rfl⟩, ?_⟩
    rcases List.eq_nil_or_concat ps with rfl | ⟨ps', p, rfl⟩
    · cases dw
      refine ifF rfl ?_
      have q' := q H1 (kp.thin WH).toSame
      rw [hiv] at q'
      exact q'
    · obtain ⟨k1, d1⟩ := p
      rw [List.concat_eq_append] at hiv cnt okp dw ⊢
      rw [List.map_append] at dw
      obtain ⟨ws', x, rfl, dw', dx⟩ := DtA.snoc dw
      obtain ⟨hc1, hn1⟩ := okp (k1, d1) (by simp)
      obtain ⟨t', xs, rfl, ft, ht, rt⟩ := dx.tupI
      obtain ⟨kv1, v1, rfl, dk, dv⟩ := rt.two
      have dk' : Dt (Ot [W]) H1 kv1 k1.d := dk
      have dv' : Dt (Ot [W]) H1 v1 d1 := dv
      have mz : wz (ps' ++ [(k1, d1)]) = wz ps' + (sz d1 + 1) := wz_app _ _
      have hiv' : isV k d = ((ps'.all fun p => isV p.1 p.2) && (hasF k1 d1 && (pbs k1 d1).all fun p => isV p.1 p.2)) := by
        rw [hiv, List.all_append, ← isV_eq k1 d1 hc1 hn1]
        show _ = (_ && isV k1 d1)
        simp
      refine ifT (by simp) ?_
      refine ⟨fun σ2 H2 => ∃ (u3 u4 : Option V) (ws : List V) (ps2 : List (Kd × PyData)), σ2 = [some kv, some v, some (.ref W), u3, u4] ∧ Kp [W] H H2 ∧ H2 W = some (.lst ws) ∧ DtA (Ot [W]) H2 ws (ps2.map pvD) ∧ (∀ p ∈ ps2, p.1.closed = true ∧ p.1.noFn = true) ∧
        isV k d = (ps2.all fun p => isV p.1 p.2) ∧ wz ps2 < wz (ps' ++ [(k1, d1)]) ∧ wz ps2 ≤ 10000001, ?_, ?_⟩
      · rintro σ2 H2 ⟨a3, a4, b1, b2, e1, e2, e3, e4, e5, e6, e7, e8⟩
        exact ⟨wz b2, e7, a3, a4, b1, b2, e1, e2, e3, e4, e5, e6, rfl, e8⟩
      refine ⟨_, rfl, .inl ⟨rfl, _, SqL.of hW⟩, W, _, .ref t', rfl, rfl, hW, by simp, ?_⟩
      rw [show (ws' ++ [V.ref t']).dropLast = ws' by simp]
      have kA : Kp [W] H1 (upd H1 W (.lst ws')) := Kp.put (by simp)
      refine ⟨t', _, rfl, SqT.of (kA t' _ ft ht), rfl, _, _, rfl, _, _, rfl, rfl, ?_⟩
      have hWA : (upd H1 W (.lst ws')) W = some (.lst ws') := upd_same
      have dkA := dk'.kp kA
      have dvA := dv'.kp kA
      have dwA := dw'.kp kA
      generalize upd H1 W (.lst ws') = HA at kA hWA dkA dvA dwA ⊢
      refine ⟨_, rfl, _, rfl, Ot [W], kv1, v1, k1, d1, rfl, dkA, hc1, hn1, dvA, fun H2 s2 => ⟨_, rfl, ?_⟩⟩
      by_cases hh : hasF k1 d1 = true
      · refine ifF (by rw [hh]; rfl) ?_
        have hW2 := s2 _ _ hWA
        refine ⟨_, rfl, .inl ⟨rfl, _, SqL.of hW2⟩, _, rfl, _, rfl, Ot [W], kv1, v1, k1, d1, 0, rfl, (fun p np z => by
          rw [List.mem_singleton.mp z] at np
          rw [np] at hW2
          cases hW2), dkA.keep s2, hc1, hn1, dvA.keep s2, hh, by omega, fun L ls H3 s3 nL hL dl => ?_⟩
        have hW3 := s3 _ _ hW2
        have l1 := dwA.length
        have l2 := dl.length
        rw [List.length_map] at l1 l2
        have w1 := wz_len ps'
        have w2 := wz_len (pbs k1 d1)
        have w3 := wz_pbs k1 d1
        refine ⟨W, L, ws', ls, rfl, rfl, hW3, hL, hm _ (by omega), ?_⟩
        have kE : Kp [W] HA (upd H3 W (.lst (ws' ++ ls))) := (Kp.same (s2.trans s3)).trans (Kp.put (by simp))
        refine ⟨_, _, ws' ++ ls, ps' ++ pbs k1 d1, rfl, kp.trans (kA.trans kE), upd_same, ?_, ?_, ?_, ?_, ?_⟩
        · rw [List.map_append]
          exact (dwA.kp kE).append (dl.kp (Kp.put (by simp)))
        · intro p hp; rcases List.mem_append.mp hp with z | z
          · exact okp p (List.mem_append_left _ z)
          · exact pbs_ok hc1 hn1 p z
        · rw [hiv', hh, List.all_append, Bool.true_and]
        · rw [wz_app, mz]
          omega
        · rw [wz_app]
          omega
      · have hf : hasF k1 d1 = false := Bool.eq_false_iff.mpr hh
        refine ifT (by rw [hf]; rfl) ?_
        have q' := q H2 ((kp.trans (kA.trans (Kp.same s2))).thin WH).toSame
        rw [hiv', hf, Bool.false_and, Bool.and_false] at q'
        exact q'
abbrev nIv : List Str := ["kind", "value"]
theorem scIv : FnScope nIv ["kind", "value"] (defScope (top 16)) := ⟨rfl, rfl, rfl, by decide +kernel, rfl, by decide +kernel, by decide +kernel⟩
theorem ok_iv {f : Addr} {fd : FuncData} (F : FnP K "is_value" (top 16) f fd) (hC : Has P w K mg base "_check_kind" ["kind"] 6 spCk) (hS : Has P w K mg base "_stands_under" ["kind", "value"] 3 spSu) : FnOk P w K mg base CX0 7 f fd ["kind", "value"] spIv := by
  obtain ⟨fC, fdC, kC, gC, bC, GC⟩ := hC
  obtain ⟨fS, fdS, kS, gS, bS, GS⟩ := hS
  refine F.ok scIv (fun vs H Q E h => ?_) (fun cdv A outer s H vs Q E hr h => ?_)
  · obtain ⟨F, kv, v, k, d, rfl, _⟩ := h
    rfl
  · obtain ⟨Fa, kv, v, k, d, rfl, hk, hcl, hnf, hdp, hkz, hd, hsz, q⟩ := h
    have sc := scIv
    have hrC : Room 6 _ := hr
    have hrS : Room 3 _ := hr.mono (by omega)
    refine ⟨_, PSs.nox (pss_cons (ps_expr (pe_call GC hrC rfl gC kC bC .nil pass0 (pa_cons (pv 0) pa_nil))) (pss_one (ps_ret (pe_call GS hrS rfl gS kS bS .nil pass0 (pa_cons (pv 0) (pa_cons (pv 1) pa_nil)))))), ?_⟩
    refine ⟨_, rfl, Fa, kv, k, rfl, hk, hcl, hnf, hdp, hkz, fun H1 s1 => ?_⟩
    exact ⟨_, rfl, _, rfl, Fa, kv, v, k, d, rfl, hk.keep s1, hcl, hnf, hd.keep s1, hsz, fun H2 s2 => q H2 (s1.trans s2)⟩
end
end K3
namespace KB
open PySem L2 PySem.Spec PyProof.Rows
/-! ### < of two tuples: asked at the first place that differs alone -/
theorem first_yes {e r : Nat → Bool} {fin : Bool} : ∀ (n s : Nat), (∀ j, s ≤ j → j < s + n → e j = true) → SeqAt.firstLt e r fin (List.range' s n) = fin
  | 0, _, _ => rfl
  | n + 1, s, h => by
    rw [List.range'_succ, SeqAt.firstLt_yes (h s (Nat.le_refl _) (by omega))]
    exact first_yes n (s + 1) fun j h1 h2 => h j (by omega) (by omega)
theorem first_no {e r : Nat → Bool} {fin : Bool} {i : Nat} (hi : e i = false) : ∀ (n s : Nat), s ≤ i → i < s + n → (∀ j, s ≤ j → j < i → e j = true) → SeqAt.firstLt e r fin (List.range' s n) = r i
  | 0, s, h1, h2, _ => absurd h2 (by omega)
  | n + 1, s, h1, h2, h => by
    rw [List.range'_succ]
    by_cases z : s = i
    · subst z
      exact SeqAt.firstLt_no hi
    · rw [SeqAt.firstLt_yes (h s (Nat.le_refl _) (by omega))]
      exact first_no hi n (s + 1) (by omega) (by omega) fun j h3 h4 => h j (by omega) h4
section
open PySem.SeqAt PySem.MeetsSeq PySem.MeetsSeq2 PySem.MeetsSeq3
/-- the pairs from the i-th on, all places ahead alike -/
structure From (e : Nat → Bool) (xs ys : Array Value) (rest : List (Value × Value)) (i : Nat) : Prop where
  rest : rest = (xs.toList.zip ys.toList).drop i
  pre : ∀ j, j < i → e j = true
theorem tup_lt_meets (a b : Addr) (xs ys : Array Value) (n1 n2 : Nat) (d1 d2 : Option Addr) (l1 l2 : Array (Option Value)) (e r : Nat → Bool) :
    Meets (Builtin.«tuple.__lt__» ⟨[.ref a, .ref b], []⟩)
      (fun A R s =>
        (s.heap.get? a = some { cls := .type "tuple", dict := d1, data := .seq xs n1, slots := l1 } ∧
          s.heap.get? b = some { cls := .type "tuple", dict := d2, data := .seq ys n2, slots := l2 }) ∧
        ((∀ j (h1 : j < xs.size) (h2 : j < ys.size), EqAt A.in1 s xs[j] ys[j] (e j)) ∧
          (∀ j (h1 : j < xs.size) (h2 : j < ys.size), (∀ i, i < j → e i = true) → e j = false → RcLt A.in1 s xs[j] ys[j] (r j))) ∧
        R (.ok (.ret (.bool (firstLt e r (decide (xs.size < ys.size)) (List.range (min xs.size ys.size)))))) s) :=
  .of_wp fun prog w A R s ⟨⟨ha, hb⟩, ⟨hq, hr⟩, h⟩ => by
    obtain ⟨hp, g, d, tk, os⟩ := s; have sub := AutoSeq1.sub_tuple_tuple
    have lz : (xs.toList.zip ys.toList).length = min xs.size ys.size := by simp
    have rg : ∀ i, i < min xs.size ys.size → (List.range (min xs.size ys.size)).drop i = i :: (List.range (min xs.size ys.size)).drop (i + 1) := fun i hi => by
      simp [List.drop_eq_getElem_cons, hi]
    wp_walk using PySem.AutoSeq1.wpAny_loadPart' ha, PySem.AutoSeq1.wpAny_loadPart' hb, wpAny_forIn_list _ (fun rest c z => (c.1 = none ∧ z = ⟨hp, g, d, tk, os⟩) ∧ ∃ i, From e xs ys rest i ∧
      R (.ok (.ret (.bool (firstLt e r (decide (xs.size < ys.size)) ((List.range (min xs.size ys.size)).drop i))))) ⟨hp, g, d, tk, os⟩) _
    case h => exact ⟨⟨rfl, rfl⟩, 0, ⟨rfl, fun j hj => absurd hj (Nat.not_lt_zero j)⟩, by simpa using h⟩
    case fin =>
      rintro ⟨c1, c2⟩ z ⟨⟨hc, rfl⟩, i, F, hR⟩
      simp only at hc
      subst hc
      have out : min xs.size ys.size ≤ i := by
        by_cases lt : i < min xs.size ys.size
        · have := F.rest
          rw [List.drop_eq_getElem_cons (lz ▸ lt)] at this
          cases this
        · exact Nat.le_of_not_lt lt
      rw [List.drop_of_length_le (by simpa using out)] at hR
      wp_walk
      refine ⟨_, rfl, ?_⟩
      (simpa [firstLt, Builtin.Tuple.tupleCompareSizes] using hR)
    case turn =>
      rintro ⟨y, x⟩ rest c z ⟨⟨hc, rfl⟩, i, F, hR⟩
      have im : i < min xs.size ys.size := by
        by_cases lt : i < min xs.size ys.size
        · exact lt
        · have := F.rest
          rw [List.drop_of_length_le (by rw [lz]; exact Nat.le_of_not_lt lt)] at this
          cases this
      have i1 : i < xs.size := Nat.lt_of_lt_of_le im (Nat.min_le_left _ _)
      have i2 : i < ys.size := Nat.lt_of_lt_of_le im (Nat.min_le_right _ _)
      have fr := F.rest
      rw [List.drop_eq_getElem_cons (lz ▸ im)] at fr
      injection fr with e1 e2
      obtain rfl : y = xs[i] := by simpa using congrArg Prod.fst e1
      obtain rfl : x = ys[i] := by simpa using congrArg Prod.snd e1
      rw [rg i im] at hR
      refine wpAny_bind (hq i i1 i2 prog w _ _ ?_)
      by_cases q : e i = true
      · rw [q]
        rw [firstLt_yes q] at hR
        wp_walk
        refine ⟨⟨rfl, rfl⟩, i + 1, ⟨e2, fun j hj => ?_⟩, hR⟩
        by_cases z : j = i
        · rw [z]; exact q
        · exact F.pre j (by omega)
      · have q' : e i = false := Bool.eq_false_iff.mpr q
        rw [q']
        rw [firstLt_no q'] at hR
        have less := hr i i1 i2 F.pre q' prog w
        wp_walk using less
        exact ⟨_, rfl, hR⟩
theorem tup_lt {A : Around} {s : Shared} {a b : Addr} {xs ys : Array Value} {e r : Nat → Bool} (ha : s.heap.IsTuple a xs) (hb : s.heap.IsTuple b ys) (hu : A.units < cLine)
    (hq : ∀ j (h1 : j < xs.size) (h2 : j < ys.size), EqAt A.in1 s xs[j] ys[j] (e j)) (hr : ∀ j (h1 : j < xs.size) (h2 : j < ys.size), (∀ i, i < j → e i = true) → e j = false → RcLt A.in1 s xs[j] ys[j] (r j)) :
    RcLt A s (.ref a) (.ref b) (firstLt e r (decide (xs.size < ys.size)) (List.range (min xs.size ys.size))) := fun prog w E Q h => by
  obtain ⟨⟨c1, d1, t1, l1⟩, h1, k1, n1, m1⟩ := id ha
  obtain ⟨⟨c2, d2, t2, l2⟩, h2, k2, n2, m2⟩ := id hb
  simp only at k1 m1 k2 m2
  subst k1 m1 k2 m2
  have last : Value.bool (firstLt e r (decide (xs.size < ys.size)) (List.range (min xs.size ys.size))) ≠ Value.notImplemented ∧ Q (.bool (firstLt e r (decide (xs.size < ys.size)) (List.range (min xs.size ys.size)))) s :=
    ⟨(fun x => nomatch x), h⟩
  exact richCompare_meets_room (op := .Lt) ⟨_, h1, rfl⟩ ⟨_, h2, rfl⟩ F.slot_tuple_lt F.entry_tuple_lt (F.args_tuple_lt_2 _ _) (tup_lt_meets a b xs ys n1 n2 d1 d2 l1 l2 e r) ⟨⟨h1, h2⟩, ⟨hq, hr⟩, last⟩ hu
end
open PySem.SeqAt (room_here room_in pairEq eqvAll_eq)
theorem readsAll_get {h : Heap} : ∀ {ds : List PyData} {vs : List Value} {as : List Addr} {j : Nat} (h1 : j < vs.length) {d : PyData}, ReadsAll h vs ds as → ds[j]? = some d → ∃ bs, Reads h vs[j] d bs
  | d :: ds, _, _, 0, h1, d', r, e => by
    obtain rfl : d = d' := by simpa using e
    cases r with
    | cons r _ => exact ⟨_, r⟩
  | d :: ds, _, _, j + 1, h1, d', r, e => by
    cases r with
    | cons _ r => exact readsAll_get (j := j) (Nat.lt_of_succ_lt_succ h1) r (by simpa using e)
theorem depth_mem : ∀ {ds : List PyData} {d : PyData}, d ∈ ds → d.depth ≤ PyData.depthAll ds
  | e :: ds, d, h => by
    simp only [PyData.depthAll]
    rcases List.mem_cons.mp h with h | h
    · rw [h]; exact Nat.le_max_left _ _
    · exact Nat.le_trans (depth_mem h) (Nat.le_max_right _ _)
section
variable {A : Around} {s : Shared} {a b : Value} {as bs : List Addr} {xs ys : List PyData}
/-- by a first place that differs -/
theorem lt_first (ra : Reads s.heap a (.tuple xs) as) (rb : Reads s.heap b (.tuple ys) bs) (pa : PyData.plainAll xs = true) (pb : PyData.plainAll ys = true) (hu : A.units + min (PyData.depth (.tuple xs)) (PyData.depth (.tuple ys)) < cLine)
    {i : Nat} {x y : PyData} (hx : xs[i]? = some x) (hy : ys[i]? = some y) (pre : ∀ j, j < i → pairEq xs ys j = true) (ne : PyData.eqv x y = false) {k : Bool}
    (hl : ∀ v w av aw, Reads s.heap v x av → Reads s.heap w y aw → A.in1.units + min x.depth y.depth < cLine → SeqAt.RcLt A.in1 s v w k) : SeqAt.RcLt A s a b k := by
  cases ra with
  | @tuple l o vs n _ _ h1 h2 h3 h4 =>
    cases rb with
    | @tuple l' o' ws n' _ _ k1 k2 k3 k4 =>
      have e1 : vs.size = xs.length := by simpa using SeqAt.ReadsAll.length _ _ _ h4
      have e2 : ws.size = ys.length := by simpa using SeqAt.ReadsAll.length _ _ _ k4
      have i1 := (List.getElem?_eq_some_iff.mp hx).1
      have i2 := (List.getElem?_eq_some_iff.mp hy).1
      (simp only [PyData.depth] at hu)
      have ei : pairEq xs ys i = false := by
        show PyData.eqv (xs.getD i .none) (ys.getD i .none) = false
        rw [List.getD_eq_getElem?_getD, List.getD_eq_getElem?_getD, hx, hy]
        exact ne
      have main := tup_lt (A := A) (s := s) (e := pairEq xs ys) (r := fun _ => k) ⟨_, h1, h2, _, h3⟩ ⟨_, k1, k2, _, k3⟩ (room_here hu) (fun j j1 j2 => ?_) (fun j j1 j2 hp hf => ?_)
      · rw [List.range_eq_range', first_no ei (min vs.size ws.size) 0 (Nat.zero_le _) (by rw [e1, e2]; omega) (fun j _ hj => pre j hj)] at main
        exact main
      · have := SeqAt.eqAt_plainAll xs ys A.in1 s vs.toList ws.toList _ _ h4 k4 pa pb (room_in hu) j (by simpa using j1) (by simpa using j2)
        simpa using this
      · have ji : j = i := by
          rcases Nat.lt_trichotomy j i with z | z | z
          · rw [pre j z] at hf; cases hf
          · exact z
          · rw [hp i z] at ei; cases ei
        subst ji
        obtain ⟨av, r1⟩ := readsAll_get (j := j) (by simpa using j1) h4 hx
        obtain ⟨aw, r2⟩ := readsAll_get (j := j) (by simpa using j2) k4 hy
        have d1 := depth_mem (List.mem_of_getElem? hx)
        have d2 := depth_mem (List.mem_of_getElem? hy)
        have := hl _ _ av aw r1 r2 (by
          have := room_in hu
          show A.units + 1 + _ < _
          omega)
        simpa using this
/-- by the lengths -/
theorem lt_ends (ra : Reads s.heap a (.tuple xs) as) (rb : Reads s.heap b (.tuple ys) bs) (pa : PyData.plainAll xs = true) (pb : PyData.plainAll ys = true) (hu : A.units + min (PyData.depth (.tuple xs)) (PyData.depth (.tuple ys)) < cLine)
    (pre : ∀ j, j < min xs.length ys.length → pairEq xs ys j = true) : SeqAt.RcLt A s a b (decide (xs.length < ys.length)) := by
  cases ra with
  | @tuple l o vs n _ _ h1 h2 h3 h4 =>
    cases rb with
    | @tuple l' o' ws n' _ _ k1 k2 k3 k4 =>
      have e1 : vs.size = xs.length := by simpa using SeqAt.ReadsAll.length _ _ _ h4
      have e2 : ws.size = ys.length := by simpa using SeqAt.ReadsAll.length _ _ _ k4
      simp only [PyData.depth] at hu; have main := tup_lt (A := A) (s := s) (e := pairEq xs ys) (r := fun _ => true) ⟨_, h1, h2, _, h3⟩ ⟨_, k1, k2, _, k3⟩ (room_here hu) (fun j j1 j2 => ?_) (fun j j1 j2 hp hf => ?_)
      · rw [List.range_eq_range', first_yes (min vs.size ws.size) 0 (fun j _ hj => pre j (by rw [← e1, ← e2]; omega)), e1, e2] at main
        exact main
      · have := SeqAt.eqAt_plainAll xs ys A.in1 s vs.toList ws.toList _ _ h4 k4 pa pb (room_in hu) j (by simpa using j1) (by simpa using j2)
        simpa using this
      · rw [pre j (by rw [← e1, ← e2]; omega)] at hf
        cases hf
end
/-! ### the order by Python's == and < -/
theorem sg_zero (i j : Int) : decide (sg i j = 0) = (i == j) := by
  unfold sg
  rw [Bool.eq_iff_iff]
  simp only [decide_eq_true_eq, beq_iff_eq]
  constructor
  · intro h
    split at h <;> split at h <;> omega
  · intro h
    subst h
    rw [if_neg (by omega)]
    rfl
theorem sg_neg (i j : Int) : decide (sg i j < 0) = decide (i < j) := by
  unfold sg
  rw [Bool.eq_iff_iff]
  simp only [decide_eq_true_eq]
  constructor
  · intro h
    split at h <;> split at h <;> omega
  · intro h
    rw [if_pos h, if_neg (by omega)]
    decide
theorem pair_at {xs ys : List PyData} {j : Nat} {x y : PyData} (hx : xs[j]? = some x) (hy : ys[j]? = some y) : pairEq xs ys j = PyData.eqv x y := by
  show PyData.eqv (xs.getD j .none) (ys.getD j .none) = _
  rw [List.getD_eq_getElem?_getD, List.getD_eq_getElem?_getD, hx, hy]
  rfl
theorem cm_eqv {k : Kd} {d e : PyData} {r : Int} (h : Cm k d e r) : PyData.eqv d e = decide (r = 0) := by
  induction h with
  | unit => rfl
  | num i j =>
    rw [sg_zero]
    simp only [PyData.eqv]
  | pairN h n ih =>
    rw [decide_eq_false n] at ih ⊢
    simp only [PyData.eqv, PyData.eqvAll, ih, Bool.false_and, Bool.and_false]
  | pairE h h2 ih ih2 =>
    rw [decide_eq_true rfl] at ih
    simp only [PyData.eqv, PyData.eqvAll, ih, ih2, Bool.true_and, Bool.and_true, beq_self_eq_true]
  | left h ih => simp only [PyData.eqv, PyData.eqvAll, ih, Bool.and_true, beq_self_eq_true, Bool.true_and]
  | right h ih => simp only [PyData.eqv, PyData.eqvAll, ih, Bool.and_true, beq_self_eq_true, Bool.true_and]
  | leftRight =>
    simp only [PyData.eqv, PyData.eqvAll]; rw [show (("left" : Str) == "right") = false by decide, Bool.false_and]
    rfl
  | rightLeft =>
    simp only [PyData.eqv, PyData.eqvAll]; rw [show (("right" : Str) == "left") = false by decide, Bool.false_and]
    rfl
  | @lstN a xs ys i x y r hx hy pre h n ihp ih =>
    rw [decide_eq_false n] at ih ⊢
    show PyData.eqvAll xs ys = false
    rw [← eqvAll_eq, Bool.and_eq_false_iff]
    left
    rw [List.all_eq_false]
    have i1 := (List.getElem?_eq_some_iff.mp hx).1
    have i2 := (List.getElem?_eq_some_iff.mp hy).1
    exact ⟨i, List.mem_range.mpr (by omega), by rw [pair_at hx hy, ih]; decide⟩
  | @lstE a xs ys pre ih =>
    show PyData.eqvAll xs ys = _
    rw [← eqvAll_eq, sg_zero]
    have all : (List.range (min xs.length ys.length)).all (pairEq xs ys) = true := by
      rw [List.all_eq_true]
      intro j hj
      have lt := List.mem_range.mp hj
      have l1 : j < xs.length := by omega
      have l2 : j < ys.length := by omega
      rw [pair_at (List.getElem?_eq_getElem l1) (List.getElem?_eq_getElem l2), ih j _ _ (List.getElem?_eq_getElem l1) (List.getElem?_eq_getElem l2)]
      rfl
    rw [all, Bool.true_and]
    rw [Bool.eq_iff_iff]
    simp only [beq_iff_eq]
    omega
theorem plain_all {xs : List PyData} (h : PyData.plainAll xs = true) : ∀ {x}, x ∈ xs → x.plain = true := by
  induction xs with
  | nil => intro x hx; cases hx
  | cons y ys ih =>
    simp only [PyData.plainAll, Bool.and_eq_true] at h
    intro x hx
    rcases List.mem_cons.mp hx with z | z
    · rw [z]; exact h.1
    · exact ih h.2 z
theorem cm_lt {k : Kd} {d e : PyData} {r : Int} (h : Cm k d e r) : ∀ {A : Around} {s : Shared} {a b : Value} {as bs : List Addr}, Reads s.heap a d as → Reads s.heap b e bs → r ≠ 0 → d.plain = true → e.plain = true → A.units + min d.depth e.depth < cLine → SeqAt.RcLt A s a b (decide (r < 0)) := by
  induction h with
  | unit => intro A s a b as bs _ _ n; exact absurd rfl n
  | num i j =>
    intro A s a b as bs ra rb n _ _ _
    cases ra
    cases rb
    rw [sg_neg]
    intro prog w E Q hq
    exact HT.rcLt_int A s i _ j _ prog w E Q hq
  | @pairN ka kb x y x' y' r h n ih =>
    intro A s a b as bs ra rb n pa pb hu
    have e0 := cm_eqv h
    rw [decide_eq_false n] at e0
    have pa' := pa
    have pb' := pb
    simp only [PyData.plain] at pa' pb'
    refine lt_first ra rb pa' pb' hu (i := 1) rfl rfl (fun j hj => ?_) e0 fun v w av aw r1 r2 hu2 => ih r1 r2 n (plain_all pa' (by simp)) (plain_all pb' (by simp)) hu2
    obtain rfl : j = 0 := by omega
    rw [pair_at rfl rfl]
    simp only [PyData.eqv, beq_self_eq_true]
  | @pairE ka kb x y x' y' r h h2 ih ih2 =>
    intro A s a b as bs ra rb n pa pb hu
    have e0 := cm_eqv h2
    rw [decide_eq_false n] at e0
    have e1 := cm_eqv h
    have pa' := pa
    have pb' := pb
    simp only [PyData.plain] at pa' pb'
    refine lt_first ra rb pa' pb' hu (i := 2) rfl rfl (fun j hj => ?_) e0 fun v w av aw r1 r2 hu2 => ih2 r1 r2 n (plain_all pa' (by simp)) (plain_all pb' (by simp)) hu2
    rcases (show j = 0 ∨ j = 1 by omega) with rfl | rfl
    · rw [pair_at rfl rfl]
      simp only [PyData.eqv, beq_self_eq_true]
    · rw [pair_at rfl rfl]
      exact e1
  | @left ka kb x x' r h ih =>
    intro A s a b as bs ra rb n pa pb hu
    have e0 := cm_eqv h
    rw [decide_eq_false n] at e0
    have pa' := pa
    have pb' := pb
    simp only [PyData.plain] at pa' pb'
    refine lt_first ra rb pa' pb' hu (i := 1) rfl rfl (fun j hj => ?_) e0 fun v w av aw r1 r2 hu2 => ih r1 r2 n (plain_all pa' (by simp)) (plain_all pb' (by simp)) hu2
    obtain rfl : j = 0 := by omega
    rw [pair_at rfl rfl]
    simp only [PyData.eqv, beq_self_eq_true]
  | @right ka kb x x' r h ih =>
    intro A s a b as bs ra rb n pa pb hu
    have e0 := cm_eqv h
    rw [decide_eq_false n] at e0
    have pa' := pa
    have pb' := pb
    simp only [PyData.plain] at pa' pb'
    refine lt_first ra rb pa' pb' hu (i := 1) rfl rfl (fun j hj => ?_) e0 fun v w av aw r1 r2 hu2 => ih r1 r2 n (plain_all pa' (by simp)) (plain_all pb' (by simp)) hu2
    obtain rfl : j = 0 := by omega
    rw [pair_at rfl rfl]
    simp only [PyData.eqv, beq_self_eq_true]
  | leftRight =>
    intro A s a b as bs ra rb n pa pb hu
    have pa' := pa
    have pb' := pb
    simp only [PyData.plain] at pa' pb'
    refine lt_first ra rb pa' pb' hu (i := 0) rfl rfl (fun j hj => absurd hj (Nat.not_lt_zero j)) (by simp only [PyData.eqv]; decide) fun v w av aw r1 r2 hu2 => ?_
    cases r1
    cases r2
    intro prog w E Q hq
    refine DT.rcLt_str _ s _ _ _ _ prog w E Q ?_
    have : decide ((("left" : Str)).cps.toList < (("right" : Str)).cps.toList) = decide ((-1 : Int) < 0) := by decide +kernel
    rw [this]
    exact hq
  | rightLeft =>
    intro A s a b as bs ra rb n pa pb hu
    have pa' := pa
    have pb' := pb
    simp only [PyData.plain] at pa' pb'
    refine lt_first ra rb pa' pb' hu (i := 0) rfl rfl (fun j hj => absurd hj (Nat.not_lt_zero j)) (by simp only [PyData.eqv]; decide) fun v w av aw r1 r2 hu2 => ?_
    cases r1
    cases r2
    intro prog w E Q hq
    refine DT.rcLt_str _ s _ _ _ _ prog w E Q ?_
    have : decide ((("right" : Str)).cps.toList < (("left" : Str)).cps.toList) = decide ((1 : Int) < 0) := by decide +kernel
    rw [this]
    exact hq
  | @lstN ka xs ys i x y r hx hy pre h n ihp ih =>
    intro A s a b as bs ra rb n pa pb hu
    have e0 := cm_eqv h
    rw [decide_eq_false n] at e0
    have pa' := pa
    have pb' := pb
    simp only [PyData.plain] at pa' pb'
    refine lt_first ra rb pa' pb' hu hx hy (fun j hj => ?_) e0 fun v w av aw r1 r2 hu2 => ih r1 r2 n (plain_all pa' (List.mem_of_getElem? hx)) (plain_all pb' (List.mem_of_getElem? hy)) hu2
    have l1 := (List.getElem?_eq_some_iff.mp hx).1
    have l2 := (List.getElem?_eq_some_iff.mp hy).1
    have g1 : j < xs.length := by omega
    have g2 : j < ys.length := by omega
    rw [pair_at (List.getElem?_eq_getElem g1) (List.getElem?_eq_getElem g2)]
    exact cm_eqv (pre j _ _ hj (List.getElem?_eq_getElem g1) (List.getElem?_eq_getElem g2))
  | @lstE ka xs ys pre ih =>
    intro A s a b as bs ra rb n pa pb hu
    have pa' := pa
    have pb' := pb
    simp only [PyData.plain] at pa' pb'
    have main := lt_ends ra rb pa' pb' hu fun j hj => by
      have g1 : j < xs.length := by omega
      have g2 : j < ys.length := by omega
      rw [pair_at (List.getElem?_eq_getElem g1) (List.getElem?_eq_getElem g2)]
      exact cm_eqv (pre j _ _ (List.getElem?_eq_getElem g1) (List.getElem?_eq_getElem g2))
    rw [sg_neg]
    have e : decide ((xs.length : Int) < (ys.length : Int)) = decide (xs.length < ys.length) := by
      rw [Bool.eq_iff_iff]
      simp only [decide_eq_true_eq]
      omega
    rw [e]
    exact main
end KB
namespace KB
open PySem L2 PySem.Spec PyProof.Rows
/-! ### what a value by its kind is worth -/
theorem plainAll_of : ∀ {xs : List PyData}, (∀ x ∈ xs, x.plain = true) → PyData.plainAll xs = true
  | [], _ => by simp only [PyData.plainAll]
  | x :: xs, h => by
    simp only [PyData.plainAll, Bool.and_eq_true]
    exact ⟨h x List.mem_cons_self, plainAll_of fun y hy => h y (List.mem_cons_of_mem _ hy)⟩
theorem vv_plain {N : Nat} {k : Kd} {d : PyData} (h : VV N k d) : d.plain = true := by
  induction h with
  | num i _ => simp only [PyData.plain]
  | unit => simp only [PyData.plain, PyData.plainAll]
  | lst hl h ih =>
    simp only [PyData.plain]
    exact plainAll_of ih
  | pair hx hy ihx ihy => simp only [PyData.plain, PyData.plainAll, ihx, ihy, Bool.and_self]
  | left hx ih => simp only [PyData.plain, PyData.plainAll, ih, Bool.and_self]
  | right hx ih => simp only [PyData.plain, PyData.plainAll, ih, Bool.and_self]
theorem depthAll_le {n : Nat} : ∀ {xs : List PyData}, (∀ x ∈ xs, x.depth ≤ n) → PyData.depthAll xs ≤ n
  | [], _ => by simp only [PyData.depthAll]; exact Nat.zero_le _
  | x :: xs, h => by
    simp only [PyData.depthAll]
    exact Nat.max_le.mpr ⟨h x List.mem_cons_self, depthAll_le fun y hy => h y (List.mem_cons_of_mem _ hy)⟩
theorem vv_depth {N : Nat} {k : Kd} {d : PyData} (h : VV N k d) : d.depth ≤ k.dep := by
  induction h with
  | num i _ => simp only [PyData.depth]; exact Nat.zero_le _
  | unit => simp only [PyData.depth, PyData.depthAll]; exact Nat.le_refl 1
  | @lst a xs hl h ih =>
    simp only [PyData.depth]
    exact Nat.succ_le_succ (depthAll_le ih)
  | @pair a b x y hx hy ihx ihy =>
    have e : (Kd.pair a b).dep = max a.dep b.dep + 1 := rfl; simp only [PyData.depth, PyData.depthAll]
    omega
  | @left a b x hx ih =>
    have e : (Kd.eith a b).dep = max a.dep b.dep + 1 := rfl; simp only [PyData.depth, PyData.depthAll]
    omega
  | @right a b x hx ih =>
    have e : (Kd.eith a b).dep = max a.dep b.dep + 1 := rfl; simp only [PyData.depth, PyData.depthAll]
    omega
/-- how long a number is -/
theorem int_long {i : Int} {c : Nat} (hc : c ≤ 10000) (h : i.natAbs ≤ bg + c) : sz (.int i) ≤ 312 := by
  have b : i.natAbs < 10 ^ 311 := Nat.lt_of_le_of_lt (Nat.le_trans h (Nat.add_le_add_left hc _)) (by unfold bg; decide +kernel)
  have e := int_text_length_le10 (k := 311) (by decide) b
  rw [sz]
  show (PyData.int i).shown.length ≤ 312
  rw [PyData.shown_int]
  show (Str.ofString (toString i)).length ≤ 312
  rw [PySem.ofString_length]
  exact e
theorem int_shows {i : Int} {c : Nat} (hc : c ≤ 10000) (h : i.natAbs ≤ bg + c) : (PyData.int i).showable = true := by
  have b : i.natAbs < 2 ^ 1100 := Nat.lt_of_le_of_lt (Nat.le_trans h (Nat.add_le_add_left hc _)) (by unfold bg; decide +kernel)
  simp only [PyData.showable, decide_eq_true_eq]; have := PySem.Flt.log2_lt_of (k := 1100) (by decide) b
  omega
def BZ (M : Nat) : Nat → Nat
  | 0 => 320
  | n + 1 => (BZ M n + 2) * M + 20
theorem BZ_ge (M : Nat) (h : 4 ≤ M) : ∀ n, 320 ≤ BZ M n
  | 0 => Nat.le_refl _
  | n + 1 => by
    have := BZ_ge M h n
    unfold BZ
    have : (BZ M n + 2) * 1 ≤ (BZ M n + 2) * M := Nat.mul_le_mul_left _ (by omega)
    omega
theorem BZ_mono {M : Nat} (h : 4 ≤ M) : ∀ {a b : Nat}, a ≤ b → BZ M a ≤ BZ M b := by
  intro a b ab
  induction ab with
  | refl => exact Nat.le_refl _
  | @step b _ ih =>
    show BZ M a ≤ (BZ M b + 2) * M + 20
    have : (BZ M b + 2) * 1 ≤ (BZ M b + 2) * M := Nat.mul_le_mul_left _ (by omega)
    omega
theorem szA_le {L : Nat} : ∀ {xs : List PyData}, (∀ x ∈ xs, sz x ≤ L) → szA xs ≤ (L + 2) * xs.length
  | [], _ => by rw [szA]; exact Nat.zero_le _
  | x :: xs, h => by
    have h1 := h x List.mem_cons_self
    have h2 := szA_le fun y hy => h y (List.mem_cons_of_mem (a := y) x hy)
    rw [szA, List.length_cons, Nat.mul_add]
    omega
theorem sz_word (x : Str) (h : (PyData.str x).shown.length ≤ 10) : sz (.str x) ≤ 10 := by rw [sz]; exact h
theorem vv_sz {N M : Nat} (hN : 10 * N ≤ 10000) (h4 : 4 ≤ M) (hM : N ≤ M) {k : Kd} {d : PyData} (h : VV N k d) : sz d ≤ BZ M (k.dep - 1) := by
  induction h with
  | num i hi => exact Nat.le_trans (int_long hN hi) (Nat.le_trans (by decide) (BZ_ge M h4 _))
  | unit => exact Nat.le_trans (by decide) (BZ_ge M h4 _)
  | @lst a xs hl h ih =>
    have p := Kd.dep_pos a
    have e : BZ M ((Kd.lst a).dep - 1) = (BZ M (a.dep - 1) + 2) * M + 20 := by
      rw [show (Kd.lst a).dep - 1 = (a.dep - 1) + 1 by show a.dep + 1 - 1 = _; omega]
      rfl
    have h1 := szA_le ih
    have h2 : (BZ M (a.dep - 1) + 2) * xs.length ≤ (BZ M (a.dep - 1) + 2) * M := Nat.mul_le_mul_left _ (Nat.le_trans hl hM)
    rw [e, sz]
    omega
  | @pair a b x y hx hy ihx ihy =>
    have p := Kd.dep_pos a
    have e : BZ M ((Kd.pair a b).dep - 1) = (BZ M (max a.dep b.dep - 1) + 2) * M + 20 := by
      rw [show (Kd.pair a b).dep - 1 = (max a.dep b.dep - 1) + 1 by show max a.dep b.dep + 1 - 1 = _; omega]
      rfl
    have w := sz_word "pair" (by decide +kernel)
    have m1 := BZ_mono h4 (show a.dep - 1 ≤ max a.dep b.dep - 1 by omega)
    have m2 := BZ_mono h4 (show b.dep - 1 ≤ max a.dep b.dep - 1 by omega)
    have h2 : (BZ M (max a.dep b.dep - 1) + 2) * 4 ≤ (BZ M (max a.dep b.dep - 1) + 2) * M := Nat.mul_le_mul_left _ h4
    rw [e, sz, szA, szA, szA, szA]
    omega
  | @left a b x hx ih =>
    have p := Kd.dep_pos a
    have e : BZ M ((Kd.eith a b).dep - 1) = (BZ M (max a.dep b.dep - 1) + 2) * M + 20 := by
      rw [show (Kd.eith a b).dep - 1 = (max a.dep b.dep - 1) + 1 by show max a.dep b.dep + 1 - 1 = _; omega]
      rfl
    have w := sz_word "left" (by decide +kernel)
    have m1 := BZ_mono h4 (show a.dep - 1 ≤ max a.dep b.dep - 1 by omega)
    have h2 : (BZ M (max a.dep b.dep - 1) + 2) * 4 ≤ (BZ M (max a.dep b.dep - 1) + 2) * M := Nat.mul_le_mul_left _ h4
    rw [e, sz, szA, szA, szA]
    omega
  | @right a b x hx ih =>
    have p := Kd.dep_pos a
    have e : BZ M ((Kd.eith a b).dep - 1) = (BZ M (max a.dep b.dep - 1) + 2) * M + 20 := by
      rw [show (Kd.eith a b).dep - 1 = (max a.dep b.dep - 1) + 1 by show max a.dep b.dep + 1 - 1 = _; omega]
      rfl
    have w := sz_word "right" (by decide +kernel)
    have m1 := BZ_mono h4 (show b.dep - 1 ≤ max a.dep b.dep - 1 by omega)
    have h2 : (BZ M (max a.dep b.dep - 1) + 2) * 4 ≤ (BZ M (max a.dep b.dep - 1) + 2) * M := Nat.mul_le_mul_left _ h4
    rw [e, sz, szA, szA, szA]
    omega
/-! ### the ints of data are bounded -/
mutual
def IB (B : Nat) : PyData → Prop
  | .int i => i.natAbs ≤ B
  | .tuple ds => IBA B ds
  | .list ds => IBA B ds
  | .none => True
  | .bool _ => True
  | .str _ => True
  | .dict _ => True
def IBA (B : Nat) : List PyData → Prop
  | [] => True
  | d :: ds => IB B d ∧ IBA B ds
end
theorem iba_iff {B : Nat} : ∀ {ds : List PyData}, IBA B ds ↔ ∀ d ∈ ds, IB B d
  | [] => by simp [IBA]
  | d :: ds => by rw [IBA, iba_iff (ds := ds)]; simp
theorem ib_tup {B : Nat} {ds : List PyData} : IB B (.tuple ds) ↔ ∀ d ∈ ds, IB B d := by rw [IB]; exact iba_iff
theorem ib_lst {B : Nat} {ds : List PyData} : IB B (.list ds) ↔ ∀ d ∈ ds, IB B d := by rw [IB]; exact iba_iff
mutual
theorem IB.mono {B C : Nat} (h : B ≤ C) : ∀ {d : PyData}, IB B d → IB C d
  | .int i, q => by rw [IB] at *; omega
  | .tuple ds, q => by rw [IB] at *; exact IBA.mono h q
  | .list ds, q => by rw [IB] at *; exact IBA.mono h q
  | .none, _ => by rw [IB]; exact True.intro
  | .bool _, _ => by rw [IB]; exact True.intro
  | .str _, _ => by rw [IB]; exact True.intro
  | .dict _, _ => by rw [IB]; exact True.intro
theorem IBA.mono {B C : Nat} (h : B ≤ C) : ∀ {ds : List PyData}, IBA B ds → IBA C ds
  | [], _ => by rw [IBA]; exact True.intro
  | d :: ds, q => by rw [IBA] at *; exact ⟨IB.mono h q.1, IBA.mono h q.2⟩
end
theorem vv_ib {N : Nat} {k : Kd} {d : PyData} (h : VV N k d) : IB (bg + 10 * N) d := by
  induction h with
  | num i hi => rw [IB]; exact hi
  | unit => rw [IB, IBA]; exact True.intro
  | lst hl h ih => exact ib_tup.mpr ih
  | pair hx hy ihx ihy =>
    refine ib_tup.mpr fun d hd => ?_
    simp only [List.mem_cons, List.not_mem_nil, or_false] at hd
    rcases hd with rfl | rfl | rfl
    · rw [IB]; exact True.intro
    · exact ihx
    · exact ihy
  | left hx ih =>
    refine ib_tup.mpr fun d hd => ?_
    simp only [List.mem_cons, List.not_mem_nil, or_false] at hd
    rcases hd with rfl | rfl
    · rw [IB]; exact True.intro
    · exact ih
  | right hx ih =>
    refine ib_tup.mpr fun d hd => ?_
    simp only [List.mem_cons, List.not_mem_nil, or_false] at hd
    rcases hd with rfl | rfl
    · rw [IB]; exact True.intro
    · exact ih
/-! ### the order is one -/
def lexF (c : PyData → PyData → Int) : List PyData → List PyData → Int
  | x :: xs, y :: ys => if c x y = 0 then lexF c xs ys else c x y
  | xs, ys => sg xs.length ys.length
def cmpF : Kd → PyData → PyData → Int
  | .num, .int i, .int j => sg i j
  | .pair a b, .tuple [_, x, y], .tuple [_, x', y'] => if cmpF a x x' = 0 then cmpF b y y' else cmpF a x x'
  | .eith a b, .tuple [.str p, x], .tuple [.str q, x'] => if p = q then (if p = "left" then cmpF a x x' else cmpF b x x') else if p = "left" then -1 else 1
  | .lst a, .tuple xs, .tuple ys => lexF (cmpF a) xs ys
  | _, _, _ => 0
theorem sg_succ (a b : Nat) : sg ((a + 1 : Nat) : Int) ((b + 1 : Nat) : Int) = sg a b := by
  unfold sg
  congr 1
  · by_cases h : b < a
    · rw [if_pos (by omega), if_pos (by omega)]
    · rw [if_neg (by omega), if_neg (by omega)]
  · by_cases h : a < b
    · rw [if_pos (by omega), if_pos (by omega)]
    · rw [if_neg (by omega), if_neg (by omega)]
theorem lex_at (c : PyData → PyData → Int) : ∀ (i : Nat) (xs ys : List PyData) (x y : PyData), xs[i]? = some x → ys[i]? = some y → (∀ j x' y', j < i → xs[j]? = some x' → ys[j]? = some y' → c x' y' = 0) → c x y ≠ 0 → lexF c xs ys = c x y
  | 0, x :: xs, y :: ys, _, _, h1, h2, _, n => by
    cases h1
    cases h2
    rw [lexF, if_neg n]
  | i + 1, x :: xs, y :: ys, u, v, h1, h2, pre, n => by
    rw [lexF, if_pos (pre 0 x y (Nat.succ_pos _) rfl rfl)]
    exact lex_at c i xs ys u v h1 h2 (fun j x' y' hj e1 e2 => pre (j + 1) x' y' (Nat.succ_lt_succ hj) e1 e2) n
  | 0, [], _, _, _, h1, _, _, _ => by cases h1
  | 0, _ :: _, [], _, _, _, h2, _, _ => by cases h2
  | i + 1, [], _, _, _, h1, _, _, _ => by cases h1
  | i + 1, _ :: _, [], _, _, _, h2, _, _ => by cases h2
theorem lex_end (c : PyData → PyData → Int) : ∀ (xs ys : List PyData), (∀ (j : Nat) (x' y' : PyData), xs[j]? = some x' → ys[j]? = some y' → c x' y' = 0) → lexF c xs ys = sg xs.length ys.length
  | x :: xs, y :: ys, pre => by
    rw [lexF, if_pos (pre 0 x y rfl rfl), lex_end c xs ys fun j x' y' e1 e2 => pre (j + 1) x' y' e1 e2, List.length_cons, List.length_cons, sg_succ]
  | [], ys, _ => by rw [lexF]; intro x xs y ys e; cases e
  | x :: xs, [], _ => by rw [lexF]; intro x xs y ys _ e; cases e
theorem cm_fun {k : Kd} {d e : PyData} {r : Int} (h : Cm k d e r) : r = cmpF k d e := by
  induction h with
  | unit => rfl
  | num i j => rfl
  | @pairN a b x y x' y' r h n ih =>
    show r = if cmpF a x x' = 0 then cmpF b y y' else cmpF a x x'
    rw [← ih, if_neg n]
  | @pairE a b x y x' y' r h h2 ih ih2 =>
    show r = if cmpF a x x' = 0 then cmpF b y y' else cmpF a x x'
    rw [← ih, if_pos rfl]
    exact ih2
  | @left a b x x' r h ih =>
    show r = if ("left" : Str) = "left" then (if ("left" : Str) = "left" then cmpF a x x' else cmpF b x x') else _
    rw [if_pos rfl, if_pos rfl]
    exact ih
  | @right a b x x' r h ih =>
    show r = if ("right" : Str) = "right" then (if ("right" : Str) = "left" then cmpF a x x' else cmpF b x x') else _
    rw [if_pos rfl, if_neg (by decide)]
    exact ih
  | @leftRight a b x x' =>
    show -1 = if ("left" : Str) = "right" then _ else if ("left" : Str) = "left" then (-1 : Int) else 1; rw [if_neg (by decide), if_pos rfl]
  | @rightLeft a b x x' =>
    show 1 = if ("right" : Str) = "left" then _ else if ("right" : Str) = "left" then (-1 : Int) else 1
    rw [if_neg (by decide), if_neg (by decide)]
  | @lstN a xs ys i x y r hx hy pre h n ihp ih =>
    show r = lexF (cmpF a) xs ys
    rw [lex_at (cmpF a) i xs ys x y hx hy (fun j x' y' hj e1 e2 => (ihp j x' y' hj e1 e2).symm) (by rw [← ih]; exact n)]
    exact ih
  | @lstE a xs ys pre ih =>
    show _ = lexF (cmpF a) xs ys
    rw [lex_end (cmpF a) xs ys fun j x' y' e1 e2 => (ih j x' y' e1 e2).symm]
theorem cm_one {k : Kd} {d e : PyData} {r r' : Int} (h : Cm k d e r) (h' : Cm k d e r') : r = r' := (cm_fun h).trans (cm_fun h').symm
theorem cm_range {k : Kd} {d e : PyData} {r : Int} (h : Cm k d e r) : r = -1 ∨ r = 0 ∨ r = 1 := by
  have s3 : ∀ i j : Int, sg i j = -1 ∨ sg i j = 0 ∨ sg i j = 1 := fun i j => by
    unfold sg
    split <;> split <;> first | omega | (right; right; rfl) | (left; rfl) | (right; left; rfl)
  induction h with
  | unit => exact .inr (.inl rfl)
  | num i j => exact s3 i j
  | pairN h n ih => exact ih
  | pairE h h2 ih ih2 => exact ih2
  | left h ih => exact ih
  | right h ih => exact ih
  | leftRight => exact .inl rfl
  | rightLeft => exact .inr (.inr rfl)
  | lstN hx hy pre h n ihp ih => exact ih
  | lstE pre ih => exact s3 _ _
/-- two values of a kind stand in the order -/
theorem cm_ex {M N : Nat} {k : Kd} {d : PyData} (h : VV M k d) : ∀ {e : PyData}, VV N k e → ∃ r, Cm k d e r := by
  induction h with
  | num i hi =>
    intro e h2
    cases h2 with
    | num j hj => exact ⟨_, .num i j⟩
  | unit =>
    intro e h2
    cases h2 with
    | unit => exact ⟨_, .unit⟩
  | pair hx hy ihx ihy =>
    intro e h2
    cases h2 with
    | pair hx' hy' =>
      obtain ⟨r, c⟩ := ihx hx'
      by_cases z : r = 0
      · subst z
        obtain ⟨r2, c2⟩ := ihy hy'
        exact ⟨r2, .pairE c c2⟩
      · exact ⟨r, .pairN c z⟩
  | left hx ih =>
    intro e h2
    cases h2 with
    | left hx' =>
      obtain ⟨r, c⟩ := ih hx'
      exact ⟨r, .left c⟩
    | right hx' => exact ⟨_, .leftRight⟩
  | right hx ih =>
    intro e h2
    cases h2 with
    | left hx' => exact ⟨_, .rightLeft⟩
    | right hx' =>
      obtain ⟨r, c⟩ := ih hx'
      exact ⟨r, .right c⟩
  | @lst a xs hl h ih =>
    intro e h2
    cases h2 with
    | @lst _ ys hl' h' =>
      clear hl hl' h
      induction xs generalizing ys with
      | nil => exact ⟨_, .lstE fun j x' y' e1 _ => by cases e1⟩
      | cons x xs ihx =>
        cases ys with
        | nil => exact ⟨_, .lstE fun j x' y' _ e2 => by cases e2⟩
        | cons y ys =>
          obtain ⟨r, c⟩ := ih x List.mem_cons_self (h' y List.mem_cons_self)
          by_cases z : r = 0
          · subst z
            obtain ⟨r2, c2⟩ := ihx (fun u hu => ih u (List.mem_cons_of_mem _ hu)) (fun u hu => h' u (List.mem_cons_of_mem _ hu))
            have sh : ∀ (P : Nat → Prop) (j x' y'), (∀ j x' y', P j → xs[j]? = some x' → ys[j]? = some y' → Cm a x' y' 0) → (j = 0 ∨ ∃ i, j = i + 1 ∧ P i) → (x :: xs)[j]? = some x' → (y :: ys)[j]? = some y' → Cm a x' y' 0 := fun P j x' y' hp hj e1 e2 => by
              rcases hj with rfl | ⟨i, rfl, hi⟩
              · cases e1
                cases e2
                exact c
              · exact hp i x' y' hi e1 e2
            cases c2 with
            | @lstN _ _ _ i u v _ hx hy pre hc n => exact ⟨r2, .lstN (i := i + 1) hx hy (fun j x' y' hj e1 e2 => sh (· < i) j x' y' (fun j x' y' hj e1 e2 => pre j x' y' hj e1 e2) (by rcases j with _ | j; exact .inl rfl; exact .inr ⟨j, rfl, by omega⟩) e1 e2) hc n⟩
            | lstE pre => exact ⟨_, .lstE fun j x' y' e1 e2 => sh (fun _ => True) j x' y' (fun j x' y' _ e1 e2 => pre j x' y' e1 e2) (by rcases j with _ | j; exact .inl rfl; exact .inr ⟨j, rfl, trivial⟩) e1 e2⟩
          · exact ⟨r, .lstN (i := 0) rfl rfl (fun j _ _ hj => absurd hj (Nat.not_lt_zero j)) c z⟩
end KB
namespace KB
open PySem L2 PySem.Spec PyProof.Rows
section
variable {X : Cx} {n : Nat}
/-- == of plain data -/
theorem op_eqVV (hS : SysIn X.K) (hr : Room n X.A) : OpR X (compareOp .Eq) (fun x y H Q => ∃ (F : Addr → Prop) (d e : PyData), Dt F H x d ∧ Dt F H y e ∧ d.plain = true ∧ e.plain = true ∧ d.depth ≤ 190 ∧ Q (.bl (PyData.eqv d e)) H) := by
  intro pins s σ H x y v u Q I rx ry h; obtain ⟨F, d, e, hd, he, pd, pe, dd, q⟩ := h
  obtain ⟨as, r1, _⟩ := hd.reads I hS rx
  obtain ⟨bs, r2, _⟩ := he.reads I hS ry
  have room := hr.un
  have hm := Nat.min_le_left d.depth e.depth
  exact SeqAt.eq_plain r1 r2 pd pe (by omega) ⟨.bl _, H, I, rfl, q⟩
/-- < of values of one kind, unlike ones -/
theorem op_ltVV (hS : SysIn X.K) (hr : Room n X.A) : OpR X (compareOp .Lt) (fun x y H Q => ∃ (F : Addr → Prop) (k : Kd) (d e : PyData) (r : Int), Dt F H x d ∧ Dt F H y e ∧ d.plain = true ∧ e.plain = true ∧ d.depth ≤ 190 ∧ Cm k d e r ∧ r ≠ 0 ∧ Q (.bl (decide (r < 0))) H) := by
  intro pins s σ H x y v u Q I rx ry h; obtain ⟨F, k, d, e, r, hd, he, pd, pe, dd, cm, n0, q⟩ := h
  obtain ⟨as, r1, _⟩ := hd.reads I hS rx
  obtain ⟨bs, r2, _⟩ := he.reads I hS ry
  have room := hr.un
  have hm := Nat.min_le_left d.depth e.depth
  exact cm_lt cm r1 r2 n0 pd pe (by omega) X.prog X.w _ _ ⟨.bl _, H, I, rfl, q⟩
end
/-- order(kind, one, two) -/
def spOr : Sp := fun vs H Q _ => ∃ (F : Addr → Prop) (kv ov tv : V) (k : Kd) (d e : PyData) (M N : Nat) (r : Int), vs = [kv, ov, tv] ∧ (∀ p, H p = none → F p) ∧ Dt F H kv k.d ∧ k.closed = true ∧ k.noFn = true ∧ k.dep ≤ 100 ∧ k.kz ≤ 10000 ∧ Dt F H ov d ∧ Dt F H tv e ∧ VV M k d ∧ VV N k e ∧
  sz d ≤ 10000000 ∧ sz e ≤ 10000000 ∧ Cm k d e r ∧ ∀ H', Same H H' → Q (.int r) H'
end KB
namespace K3
open PySem PySem.Spec PyProof.Rows L2 KB
section
variable {K : PySem.W.Frag} {mg : Str → Option Value} {base : Heap} {P : Program} {w : World}
abbrev nOr : List Str := ["kind", "one", "two", "value"]
theorem scOr : FnScope nOr ["kind", "one", "two"] (defScope (top 17)) := ⟨rfl, rfl, rfl, by decide +kernel, rfl, by decide +kernel, by decide +kernel⟩
theorem ok_or {f : Addr} {fd : FuncData} (F : FnP K "order" (top 17) f fd) (B : Bl K mg) (hC : Has P w K mg base "_check_kind" ["kind"] 6 spCk) (hS : Has P w K mg base "_stands_under" ["kind", "value"] 3 spSu) : FnOk P w K mg base CX0 7 f fd ["kind", "one", "two"] spOr := by
  obtain ⟨fC, fdC, kC, gC, bC, GC⟩ := hC
  obtain ⟨fS, fdS, kS, gS, bS, GS⟩ := hS
  refine F.ok scOr (fun vs H Q E h => ?_) (fun cdv A outer s H vs Q E hr h => ?_)
  · obtain ⟨F, kv, ov, tv, k, d, e, M, N, r, rfl, _⟩ := h
    rfl
  · obtain ⟨Fa, kv, ov, tv, k, d, e, M, N, r, rfl, hF, hk, hcl, hnf, hdp, hkz, hd, he, vd, ve, sd, se, cm, q⟩ := h
    have sc := scOr
    have hrC : Room 6 _ := hr
    have hrS : Room 3 _ := hr.mono (by omega)
    refine ⟨_, PSs.nox (pss_cons (ps_expr (pe_call GC hrC rfl gC kC bC .nil pass0 (pa_cons (pv 0) pa_nil))) (pss_cons (ps_for PassesOwn.never rfl (pi_tup (pe_tup (pa_cons (pv 1) (pa_cons (pv 2) pa_nil)))) (pg_name (i := 3) sc.nd rfl (Or.inl rfl)) (pss_one (ps_if (pt_not (pt_val (pe_call GS hrS rfl gS kS bS .nil pass0 (pa_cons (pv 0) (pa_cons (pv 3) pa_nil))))) (pss_one ps_never) pss_nil))) (pss_cons (ps_if (pt_cmpR (op_eqVV B.sys hr) (pv 1) (pv 2) (nomark _)) (pss_one (ps_ret pe_int)) pss_nil) (pss_one (ps_ret (pe_ifExp (pt_cmpR (op_ltVV B.sys hr) (pv 1) (pv 2) (nomark _)) (pe_un un_neg pe_int) pe_int)))))), ?_⟩
    have big : ∀ k : Nat, k ≤ 1000 → k ≤ sizeLine := fun k h => Nat.le_of_lt (small1000 h)
    refine ⟨_, rfl, Fa, kv, k, rfl, hk, hcl, hnf, hdp, hkz, fun H1 s1 => ?_⟩
    refine ⟨_, rfl, _, rfl, big _ (by show (2 : Nat) ≤ 1000; decide), fun t nt => ?_⟩
    have s2 := s1.trans (@Same.new t _ (.tup [ov, tv]) nt)
    have ht : (upd H1 t (.tup [ov, tv])) t = some (.tup [ov, tv]) := upd_same
    refine ⟨t, rfl, ⟨_, SqT.of ht⟩, for_tup (K := K) (a := t) (xs := [ov, tv]) (fun i σ H2 => Same H H2 ∧ Same (upd H1 t (.tup [ov, tv])) H2 ∧ ∃ u3 : Option V, σ = [some kv, some ov, some tv, u3]) ⟨s2, Same.refl _, none, rfl⟩ (fun i σ H2 _ hP => SqT.of (hP.2.1 t _ ht)) ?_ ?_⟩
    · rintro i x σ H2 hi ⟨sm, sm1, u3, rfl⟩
      obtain ⟨dx, hdx, isx, szx⟩ : ∃ dx, Dt Fa H x dx ∧ isV k dx = true ∧ sz dx ≤ 10000000 := by
        rcases i with _ | _ | i
        · cases hi
          exact ⟨d, hd, vd.isV, sd⟩
        · cases hi
          exact ⟨e, he, ve.isV, se⟩
        · cases hi
      refine ⟨_, rfl, _, rfl, Fa, kv, x, k, dx, rfl, hk.keep sm, hcl, hnf, hdx.keep sm, szx, fun H3 s3 => ⟨_, rfl, ifF (by rw [isx]; rfl) ?_⟩⟩
      exact ⟨sm.trans s3, sm1.trans s3, _, rfl⟩
    · rintro σ H2 ⟨sm, sm1, u3, rfl⟩
      have pd := vv_plain vd
      have pe := vv_plain ve
      have dd := vv_depth vd
      refine ⟨_, rfl, _, rfl, Fa, d, e, hd.keep sm, he.keep sm, pd, pe, by omega, _, rfl, ?_⟩
      rw [cm_eqv cm]
      by_cases z : r = 0
      · subst z
        exact ifT rfl (q H2 sm)
      · refine ifF (decide_eq_false z) ?_
        refine ⟨_, rfl, _, rfl, Fa, k, d, e, r, hd.keep sm, he.keep sm, pd, pe, by omega, cm, z, _, rfl, ?_⟩
        rcases cm_range cm with rfl | rfl | rfl
        · exact ifT rfl ⟨_, rfl, q H2 sm⟩
        · exact absurd rfl z
        · exact ifF rfl (q H2 sm)
end
end K3
namespace KB
open PySem L2 PySem.Spec PyProof.Rows
/-! ### t[::-1] of a tuple -/
section
variable {A : Around} {E : Value → Shared → Prop} {s : Shared} {prog : Program} {w : World}
theorem back_bounds (n : Nat) : Builtin.Slice.sliceAdjust none none (-1) (n : Int) = ((n : Int) - 1, -1) := rfl
theorem back_places (n : Nat) : Builtin.Slice.slicePlaces ((n : Int) - 1) (-1) (-1) = n := by
  unfold Builtin.Slice.slicePlaces; rw [if_neg (by decide)]
  by_cases h : n = 0
  · subst h
    rfl
  · rw [if_pos (by omega), show (-(-1) : Int) = 1 by decide, Int.ediv_one]
    omega
theorem back_pick (xs : Array Value) : ((List.range xs.size).filterMap fun (k : Nat) => xs[(((xs.size : Int) - 1) + (k : Int) * (-1)).toNat]?).toArray = xs.toList.reverse.toArray := by
  have e : (fun (k : Nat) => xs[(((xs.size : Int) - 1) + (k : Int) * (-1)).toNat]?) = (fun k => xs[k]?) ∘ fun k => xs.size - 1 - k := by
    funext k
    have : (((xs.size : Int) - 1) + (k : Int) * (-1)).toNat = xs.size - 1 - k := by omega
    rw [this]
    rfl
  rw [e, ← List.filterMap_map, PySem.W.krv_range, List.filterMap_reverse, PySem.W.krv_all]
theorem back_applied {sl : Addr} {a b c : Value} {n : Nat} {Q : Int × Int × Nat → Shared → Prop} (hs : s.heap.IsSliceOf sl a b c) (pa : IsPart a none) (pb : IsPart b none) (pc : IsPart c (some (-1))) (h : Q ((n : Int) - 1, -1, n) s) : wpAny (model prog w) A (Builtin.Slice.sliceApplied (.ref sl) (pure (n : Int))) Q E s := by
  obtain ⟨o, ho, hc, hd⟩ := id hs
  unfold Builtin.Slice.sliceApplied Builtin.Slice.sliceFields; refine wpAny_bind (wpAny_bind (wpAny_field ho hd (x := a) rfl (wpAny_bind (wpAny_field ho hd (x := b) rfl (wpAny_bind (wpAny_field ho hd (x := c) rfl (wpAny_pure ?_)))))))
  refine wpAny_bind (HT.slicePart_ pc ?_)
  show wpAny _ _ (if ((-1 : Int) == 0) = true then _ else _) _ _ s
  rw [if_neg (by decide)]
  refine wpAny_bind (HT.slicePart_ pa (wpAny_bind (HT.slicePart_ pb (wpAny_bind (wpAny_pure ?_)))))
  show wpAny _ _ (match Builtin.Slice.sliceAdjust none none (-1) (n : Int) with | (lo, hi) => pure (lo, (-1 : Int), Builtin.Slice.slicePlaces lo hi (-1))) _ _ s
  rw [back_bounds n]
  show wpAny _ _ (pure ((n : Int) - 1, (-1 : Int), Builtin.Slice.slicePlaces ((n : Int) - 1) (-1) (-1))) _ _ s
  rw [back_places]
  exact wpAny_pure h
theorem back_item {t sl : Addr} {xs : Array Value} {a b c : Value} {Q : Value → Shared → Prop} (ht : IsTup s.heap t xs) (hs : s.heap.IsSliceOf sl a b c) (pa : IsPart a none) (pb : IsPart b none) (pc : IsPart c (some (-1)))
    (h : Q (.ref s.heap.objs.size) { s with heap := s.heap.push { cls := .type "tuple", data := .seq xs.toList.reverse.toArray } }) (hz : xs.size ≤ sizeLine) : wpAny (model prog w) A (getItem (.ref t) (.ref sl)) Q E s := by
  have fits : sizeOk (.seq xs.toList.reverse.toArray) := by
    show xs.toList.reverse.toArray.size ≤ sizeLine
    simpa using hz
  obtain ⟨o, ho, hc, hd⟩ := id hs
  have tS : s.TypeIs (.ref sl) "slice" := ⟨o, ho, hc⟩
  have hT := ht.typeIs
  unfold getItem
  try (with_reducible refine wpAny_holding ?_)
  first | (refine wpAny_bind (wpAny_pure ?_)) | skip
  refine wpAny_bind (wpAny_sequenceKey hT (by decide) ?_)
  refine wpAny_bind (wpAny_callSpecial?_slot (name := Str.ofString "__getitem__") hT PyProof.Rows.slot_tuple_getitem (wpAny_call_entry PyProof.Rows.slot_tuple_getitem hT entry_tuple_getitem ?_ (args_tuple_getitem _ _)))
  show wpAny _ _ (Builtin.Tuple.tupleItemsOf (.ref t) >>= _) _ _ s; refine wpAny_bind (tupleItemsOf_ ht (wpAny_bind (wpAny_typeOf tS ?_)))
  rw [if_pos (by decide)]
  refine wpAny_bind (back_applied hs pa pb pc ?_)
  have no : ¬ ((((xs.size : Int) - 1) == 0 && (-1 : Int) == 1 && xs.size == xs.size) = true) := by
    rw [show ((-1 : Int) == 1) = false by decide, Bool.and_false, Bool.false_and]
    exact Bool.false_ne_true
  show wpAny _ _ (if (((xs.size : Int) - 1) == 0 && (-1 : Int) == 1 && xs.size == xs.size) = true then _ else _) _ _ s
  rw [if_neg no, back_pick]
  first
    | exact wpAny_bind (m := Builtin.Tuple.tupleExact _) (wpAny_newObj_type (wpAny_pure ⟨_, rfl, wpAny_pure h⟩) fits)
    | exact wpAny_bind (m := Builtin.Tuple.tupleExact _) (wpAny_newObj_type (wpAny_bind (wpAny_pure (wpAny_pure ⟨_, rfl, wpAny_pure h⟩))) fits)
    | exact wpAny_bind (wpAny_bind (m := Builtin.Tuple.tupleExact _) (wpAny_newObj_type (wpAny_pure (wpAny_pure ⟨_, rfl, wpAny_pure h⟩)) fits))
    | exact wpAny_bind (wpAny_bind (m := Builtin.Tuple.tupleExact _) (wpAny_newObj_type (wpAny_pure ⟨_, rfl, wpAny_pure h⟩) fits))
end
def tRevT (K : PySem.W.Frag) (te : TE) : TE := fun σ H Q => te σ H fun x H1 => ∃ a xs, x = .ref a ∧ SqT K H1 a xs ∧ ∀ p, H1 p = none → Q (.ref p) (upd H1 p (.tup xs.reverse))
theorem pe_revT {X : Cx} {e : Expr} {te : TE} {k : Nat} {p1 p2 p3 pos : Pos} (he : PE X e te) : PE X (.Subscript e (.Slice none none (some (.UnaryOp .USub (.Constant (.int 1) k p1) p2)) p3) pos) (tRevT X.K te) := by
  refine ⟨fun pins s σ H Q I h => Subscript_ (thn (he.run pins s σ H _ I h) fun v s1 ⟨x, H1, I1, r1, a, xs, ex, hx, q⟩ => ?_)⟩
  subst ex
  cases r1
  have step : PO X (some (.UnaryOp .USub (.Constant (.int 1) k p1) p2)) (tPart (tUn (rU fun i => .int (-i)) (tC (.int 1)))) := po_some (pe_un un_neg pe_int)
  refine wpAny_Slice (thn (po_none.run pins s1 σ H1 (fun o H2 => o = none ∧ H2 = H1) I1 ⟨rfl, rfl⟩) fun vl s2 ⟨l, H2, I2, pl, el, e2⟩ => ?_); subst el e2
  refine thn (po_none.run pins s2 σ H2 (fun o H3 => o = none ∧ H3 = H2) I2 ⟨rfl, rfl⟩) fun vu s3 ⟨u, H3, I3, pu, eu, e3⟩ => ?_; subst eu e3
  refine thn (step.run pins s3 σ H3 (fun o H4 => o = some (-1) ∧ H4 = H3) I3 ⟨1, rfl, -1, rfl, rfl, rfl⟩) fun vs s4 ⟨o, H4, I4, ps, eo, e4⟩ => ?_
  subst eo e4
  have I5 : Inv X pins σ H4 { s4 with heap := s4.heap.push { cls := .type "slice", data := .fields #[vl, vu, vs] } } := I4.kept (t' := s4.toks) fun b ob q => Heap.get?_push_of_some _ q; obtain ⟨its, r, ht, hz⟩ := I5.tuple hx
  have len := r.length
  show wpAny (model X.prog X.w) X.A (subscriptTail e (.Slice none none (some (.UnaryOp .USub (.Constant (.int 1) k p1) p2)) p3) (.ref a) (.ref s4.heap.objs.size)) (EP X pins σ Q) X.xe { s4 with heap := s4.heap.push { cls := .type "slice", data := .fields #[vl, vu, vs] } }; refine tail_any (ops := [.ref a, .ref s4.heap.objs.size]) ht.typeIs PyProof.Rows.slot_tuple_getitem.lookup ?_ (by with_unfolding_all rfl)
  refine back_item ht (Heap.IsSliceOf.new _ vl vu vs) pl pu ps ?_ (by rw [List.size_toArray]; omega)
  refine ⟨.ref _, _, I5.laid (t' := s4.toks) (o := .tup xs.reverse) (fun b ob q => Heap.get?_push_of_some _ q) (Nat.le_refl _) ?_, rfl, q _ (I5.hok.fresh (Nat.le_refl _))⟩
  refine ⟨by rw [List.length_reverse]; exact hz, _, r.reverse, ?_⟩
  exact IsTup.new _ _
end KB
namespace KB
open PySem L2 PySem.Spec PyProof.Rows
/-! ### a thing and what is bent from it -/
structure Bt (B : Nat) (d e : PyData) : Prop where
  sh : e.showable = true
  dp : e.depth ≤ d.depth + 4
  ln : sz e ≤ 2 * sz d + 400
  ib : IB (B + 1) e
theorem showAll_iff : ∀ {ds : List PyData}, PyData.showableAll ds = true ↔ ∀ x ∈ ds, x.showable = true
  | [] => by simp [PyData.showableAll]
  | d :: ds => by simp only [PyData.showableAll, Bool.and_eq_true, showAll_iff (ds := ds), List.mem_cons, forall_eq_or_imp]
theorem sh_tup {ds : List PyData} : (PyData.tuple ds).showable = true ↔ ∀ x ∈ ds, x.showable = true := by
  simp only [PyData.showable]
  exact showAll_iff
theorem sh_lst {ds : List PyData} : (PyData.list ds).showable = true ↔ ∀ x ∈ ds, x.showable = true := by
  simp only [PyData.showable]
  exact showAll_iff
theorem dp_tup {ds : List PyData} {n : Nat} (h : ∀ x ∈ ds, x.depth ≤ n) : (PyData.tuple ds).depth ≤ n + 1 := by
  simp only [PyData.depth]
  exact Nat.succ_le_succ (depthAll_le h)
theorem dp_lst {ds : List PyData} {n : Nat} (h : ∀ x ∈ ds, x.depth ≤ n) : (PyData.list ds).depth ≤ n + 1 := by
  simp only [PyData.depth]
  exact Nat.succ_le_succ (depthAll_le h)
theorem dp_mem {ds : List PyData} {x : PyData} (h : x ∈ ds) : x.depth + 1 ≤ (PyData.tuple ds).depth := by
  simp only [PyData.depth]
  exact Nat.succ_le_succ (depth_mem h)
theorem sz_tup (ds : List PyData) : sz (.tuple ds) = szA ds + 3 := by rw [sz]
theorem sz_lst (ds : List PyData) : sz (.list ds) = szA ds + 3 := by rw [sz]
theorem szA_one (d : PyData) : szA [d] = sz d + 2 := by rw [szA, szA, Nat.add_zero]
theorem szA_split (ds : List PyData) (i : Nat) : szA (ds.take i) + szA (ds.drop i) = szA ds := by
  rw [← szA_app, List.take_append_drop]
theorem szA_at {ds : List PyData} {i : Nat} {d : PyData} (h : ds[i]? = some d) : szA (ds.take i) + (sz d + 2) + szA (ds.drop (i + 1)) = szA ds := by
  obtain ⟨hi, e⟩ := List.getElem?_eq_some_iff.mp h; have := szA_split ds i
  rw [List.drop_eq_getElem_cons hi, szA, e] at this
  omega
theorem szA_rev : ∀ ds : List PyData, szA ds.reverse = szA ds
  | [] => rfl
  | d :: ds => by
    rw [List.reverse_cons, szA_app, szA_rev ds, szA_one, szA]
    omega
theorem mem_take {ds : List PyData} {i : Nat} {x : PyData} (h : x ∈ ds.take i) : x ∈ ds := List.mem_of_mem_take h
theorem mem_drop {ds : List PyData} {i : Nat} {x : PyData} (h : x ∈ ds.drop i) : x ∈ ds := List.mem_of_mem_drop h
section
variable {B : Nat} {ds : List PyData} {i : Nat} {d e : PyData}
/-- a row of the old things and of new ones -/
theorem bt_row {es : List PyData} (hs : (PyData.tuple ds).showable = true) (hb : IB B (.tuple ds)) (hn : ds ≠ []) (h : ∀ x ∈ es, x ∈ ds ∨ (x.showable = true ∧ x.depth ≤ 3 ∧ IB (B + 1) x)) (hz : szA es + 3 ≤ 2 * (szA ds + 3) + 400) :
    Bt B (.tuple ds) (.tuple es) := by
  obtain ⟨x0, hx0⟩ := List.exists_mem_of_ne_nil ds hn
  have one := dp_mem hx0
  refine ⟨sh_tup.mpr fun x hx => (h x hx).elim (sh_tup.mp hs x) (·.1), ?_, ?_, ib_tup.mpr fun x hx => (h x hx).elim (fun m => (ib_tup.mp hb x m).mono (Nat.le_succ B)) (·.2.2)⟩
  · have : (PyData.tuple es).depth ≤ ((PyData.tuple ds).depth + 3) + 1 := dp_tup fun x hx => (h x hx).elim (fun m => by have := dp_mem m; omega) fun q => by omega
    exact this
  · rw [sz_tup, sz_tup]
    exact hz
theorem bt_lst (hs : (PyData.tuple ds).showable = true) (hb : IB B (.tuple ds)) : Bt B (.tuple ds) (.list ds) := by
  refine ⟨sh_lst.mpr (sh_tup.mp hs), ?_, ?_, ib_lst.mpr fun x hx => (ib_tup.mp hb x hx).mono (Nat.le_succ B)⟩
  · simp only [PyData.depth]
    omega
  · rw [sz_lst, sz_tup]
    omega
/-- another thing in one's place -/
theorem bt_at (hs : (PyData.tuple ds).showable = true) (hb : IB B (.tuple ds)) (hd : ds[i]? = some d) (h : Bt B d e) : Bt B (.tuple ds) (.tuple (ds.take i ++ [e] ++ ds.drop (i + 1))) := by
  have md := List.mem_of_getElem? hd
  have dd := dp_mem md
  have cas : ∀ x ∈ ds.take i ++ [e] ++ ds.drop (i + 1), x ∈ ds ∨ x = e := fun x hx => by
    rcases (List.mem_append.mp hx) with hx | hx
    · rcases (List.mem_append.mp hx) with hx | hx
      · exact .inl (mem_take hx)
      · exact .inr (List.mem_singleton.mp hx)
    · exact .inl (mem_drop hx)
  refine ⟨sh_tup.mpr fun x hx => (cas x hx).elim (sh_tup.mp hs x) fun z => by rw [z]; exact h.sh, ?_, ?_, ib_tup.mpr fun x hx => (cas x hx).elim (fun m => (ib_tup.mp hb x m).mono (Nat.le_succ B)) fun z => by rw [z]; exact h.ib⟩
  · have dp := h.dp
    have : (PyData.tuple (ds.take i ++ [e] ++ ds.drop (i + 1))).depth ≤ ((PyData.tuple ds).depth + 3) + 1 := dp_tup fun x hx => (cas x hx).elim (fun m => by have := dp_mem m; omega) fun z => by rw [z]; omega
    exact this
  · have z1 := szA_at hd
    have z2 := h.ln
    rw [sz_tup, sz_tup, szA_app, szA_app, szA_one]
    omega
theorem Bt.small (hs : e.showable = true) (hd : e.depth ≤ 4) (hz : sz e ≤ 400) (hb : IB (B + 1) e) : Bt B d e := ⟨hs, by omega, by omega, hb⟩
end
/-! ### a path into a thing, from its end -/
def Ch (d : PyData) : List (PyData × Nat) → PyData → Prop
  | [], x => x = d
  | (u, a) :: rp, x => (∃ us, u = .tuple us ∧ us[a]? = some x) ∧ Ch d rp u
def pD (p : PyData × Nat) : PyData := .tuple [p.1, .int (p.2 : Int)]
theorem DtA.reverse {F : Addr → Prop} {H : Hp} : ∀ {vs : List V} {ds : List PyData}, DtA F H vs ds → DtA F H vs.reverse ds.reverse
  | _, _, .nil => .nil
  | _, _, .cons h r => by
    rw [List.reverse_cons, List.reverse_cons]; exact r.reverse.append (.cons h .nil)
/-- what holds of a thing holds of its parts -/
theorem ch_ok {B : Nat} {d : PyData} (hs : d.showable = true) (hb : IB B d) : ∀ {rp : List (PyData × Nat)} {x : PyData}, Ch d rp x → x.showable = true ∧ IB B x ∧ sz x ≤ sz d
  | [], x, h => by
    have e : x = d := h
    subst e
    exact ⟨hs, hb, Nat.le_refl _⟩
  | (u, a) :: rp, x, ⟨⟨us, e, hx⟩, h⟩ => by
    obtain ⟨h1, h2, h3⟩ := ch_ok hs hb h
    subst e
    have m := List.mem_of_getElem? hx
    refine ⟨sh_tup.mp h1 x m, ib_tup.mp h2 x m, ?_⟩
    have := szA_mem m
    rw [sz_tup] at h3
    omega
/-! ### loops that may be left -/
theorem for_rangeB {lo : Int} {n : Nat} {g : TG} {tb : TS} {D : Ends} {σ : L2.St} {H : Hp} (Pv : Nat → L2.St → Hp → Prop) (h0 : Pv 0 σ H) (hd : ∀ i σ H, i ≤ n → Pv i σ H → D.nx σ H)
    (hs : (∀ i σ H, i ≤ n → Pv i σ H → D.nx σ H) → ∀ i σ H, i < n → Pv i σ H → g (.int (lo + i)) σ H fun σ2 H2 => tb { D with nx := Pv (i + 1), ct := Pv (i + 1), bk := D.nx } σ2 H2) : ∃ W : Nat → Nat → L2.St → Hp → Prop, (∃ m, W 0 m σ H) ∧ ∀ i m σ H, W i m σ H →
      ((Itr lo n).stop i H ∧ D.nx σ H) ∨ ((Itr lo n).go i H ∧ ∃ N : L2.St → Hp → Prop, (∀ σ' H', N σ' H' → ∃ m', m' < m ∧ W (i + 1) m' σ' H') ∧ ∀ x H', (Itr lo n).yld i H x H' → g x σ H' fun σ2 H2 => tb { D with nx := N, ct := N, bk := D.nx } σ2 H2) :=
  for_range Pv h0 (hs hd) fun σ H => hd n σ H (Nat.le_refl _)
theorem Dt.ot {w : Addr} {H : Hp} {v : V} {d : PyData} (h : Dt (Nw w) H v d) : Dt (Ot [w]) H v d := h.move fun a o f e => ⟨fun z => f (List.mem_singleton.mp z), e⟩
theorem Dt.nwo {w : Addr} {S : List Addr} {H : Hp} {v : V} {d : PyData} (h : Dt (Ot S) H v d) (hw : w ∈ S) : Dt (Nw w) H v d := h.move fun a o f e => ⟨fun z => f (by rw [z]; exact hw), e⟩
theorem Kw.kp {w : Addr} {S : List Addr} {H H' : Hp} (k : Kw w H H') (hw : w ∈ S) : Kp S H H' := fun b o n e => k b o (fun z => n (by rw [z]; exact hw)) e
theorem Kp.kw {w : Addr} {H H' : Hp} (k : Kp [w] H H') : Kw w H H' := fun b o n e => k b o (fun z => n (List.mem_singleton.mp z)) e
end KB
namespace KB
open PySem L2 PySem.Spec PyProof.Rows
/-! ### tests that leave the heap as it is -/
def Tst (t : TT) (σ : L2.St) (H : Hp) (b : Bool) : Prop := ∀ Q : Bool → Hp → Prop, Q b H → t σ H Q
section
variable {t u : TT} {σ : L2.St} {H : Hp} {x y : Bool} {A B R : TS} {D : Ends}
theorem tst_and (ha : Tst t σ H x) (hb : x = true → Tst u σ H y) : Tst (tAnd t u) σ H (x && y) := fun Q q => ha _ (by
  cases x with
  | true => exact ifT rfl (hb rfl Q q)
  | false => exact ifF rfl q)
theorem tst_or (ha : Tst t σ H x) (hb : x = false → Tst u σ H y) : Tst (tOr t u) σ H (x || y) := fun Q q => ha _ (by
  cases x with
  | true => exact ifT rfl q
  | false => exact ifF rfl (hb rfl Q q))
theorem tst_not (ha : Tst t σ H x) : Tst (tNot t) σ H (!x) := fun Q q => ha _ q
theorem tst_lt {i : Nat} {m n : Int} (h : σ[i]? = some (some (.int m))) : Tst (tTest (tOp (rI0 fun i j => V.bl (decide (i < j))) (tVar i) (tC (V.int n)))) σ H (decide (m < n)) := fun Q q => ⟨_, h, _, _, rfl, rfl, _, rfl, q⟩
theorem tst_eq {i : Nat} {m n : Int} (h : σ[i]? = some (some (.int m))) : Tst (tTest (tOp rEq (tVar i) (tC (V.int n)))) σ H (decide (m = n)) := fun Q q => ⟨_, h, rfl, _, rfl, by
  have e : decide (V.int m = V.int n) = decide (m = n) := by
    by_cases z : m = n
    · rw [decide_eq_true z, decide_eq_true (by rw [z])]
    · rw [decide_eq_false z, decide_eq_false fun y => z (V.int.inj y)]
  rw [e]
  exact q⟩
theorem seq_if (h : Tst t σ H x) (h1 : x = true → A { D with nx := R D } σ H) (h2 : x = false → B { D with nx := R D } σ H) : tSeq (tIfS t A B) R D σ H := h _ (by
  cases x with
  | true => exact ifT rfl (h1 rfl)
  | false => exact ifF rfl (h2 rfl))
theorem one_if (h : Tst t σ H x) (h1 : x = true → A D σ H) (h2 : x = false → B D σ H) : tIfS t A B D σ H := h _ (by
  cases x with
  | true => exact ifT rfl (h1 rfl)
  | false => exact ifF rfl (h2 rfl))
end
theorem any_words {ws : List Str} {i : Nat} {v : V} (h : (ws.map V.str)[i]? = some v) : ∃ x, v = .str x ∧ x ∈ ws := by
  rw [List.getElem?_map] at h
  cases e : ws[i]? with
  | none => (rw [e] at h; cases h)
  | some x => rw [e] at h; exact ⟨x, (Option.some.inj h).symm, List.mem_of_getElem? e⟩
mutual
def ibB (B : Nat) : PyData → Bool
  | .int i => decide (i.natAbs ≤ B)
  | .tuple ds => ibBA B ds
  | .list ds => ibBA B ds
  | .none => true
  | .bool _ => true
  | .str _ => true
  | .dict _ => true
def ibBA (B : Nat) : List PyData → Bool
  | [] => true
  | d :: ds => ibB B d && ibBA B ds
end
mutual
theorem ibB_ok {B : Nat} : ∀ {d : PyData}, ibB B d = true → IB B d
  | .int i, h => by rw [IB]; rw [ibB] at h; exact of_decide_eq_true h
  | .tuple ds, h => by rw [IB]; rw [ibB] at h; exact ibBA_ok h
  | .list ds, h => by rw [IB]; rw [ibB] at h; exact ibBA_ok h
  | .none, _ => by rw [IB]; exact True.intro
  | .bool _, _ => by rw [IB]; exact True.intro
  | .str _, _ => by rw [IB]; exact True.intro
  | .dict _, _ => by rw [IB]; exact True.intro
theorem ibBA_ok {B : Nat} : ∀ {ds : List PyData}, ibBA B ds = true → IBA B ds
  | [], _ => by rw [IBA]; exact True.intro
  | d :: ds, h => by
    rw [ibBA] at h
    rw [IBA]
    obtain ⟨h1, h2⟩ := Bool.and_eq_true_iff.mp h
    exact ⟨ibB_ok h1, ibBA_ok h2⟩
end
def lenZ : PyData → Bool
  | .tuple ds => decide (ds.length = 0)
  | _ => false
theorem isTup_of {d : PyData} (h : isTup d = true) : ∃ ds, d = .tuple ds := by
  cases d with
  | tuple ds => exact ⟨ds, rfl⟩
  | _ => cases h
theorem lenZ_of {F : Addr → Prop} {H : Hp} {xs : List V} {ds : List PyData} (r : DtA F H xs ds) : lenZ (.tuple ds) = decide (V.int (xs.length : Int) = V.int 0) := by
  show decide (ds.length = 0) = _
  rw [← r.length]
  by_cases z : xs.length = 0
  · rw [decide_eq_true z, decide_eq_true (by rw [z]; rfl)]
  · rw [decide_eq_false z, decide_eq_false fun y => z (by have := V.int.inj y; omega)]
def bentW : List Str := ["pair", "either", "fun", "list", "var", "b", "d", "left", "right", "first", "plus", "call", "cons", "<="]
theorem bentW_short : (bentW.all fun x => decide (sz (.str x) ≤ 10)) = true := by decide +kernel
/-- bent(well, thing) -/
def spBent : Sp := fun vs H Q _ => ∃ (w : Addr) (v : V) (d : PyData) (B : Nat) (c : Int), vs = [.ref w, v] ∧ Dt (Nw w) H v d ∧ d.showable = true ∧ sz d ≤ 4000000 ∧ IB B d ∧ bg ≤ B ∧ B ≤ bg + 9000 ∧ Wl H w c ∧ c + 3 < 2 ^ 60 ∧
  ∀ (v' : V) (e : PyData) (c' : Int) (H' : Hp), Dt (Nw w) H' v' e → Bt B d e → Kw w H H' → Wl H' w c' → c' ≤ c + 3 → Q v' H'
end KB
namespace K3
open PySem PySem.Spec PyProof.Rows L2 KB
theorem odd_sh : (oddL.all fun d => d.showable && (decide (d.depth ≤ 3) && decide (sz d ≤ 100))) = true := by decide +kernel
theorem odd_ibB : (oddL.all fun d => ibB (10 ^ 30) d) = true := by decide +kernel
theorem odd_ib {B : Nat} (hB : bg ≤ B) : ∀ d ∈ oddL, IB B d := fun d hd =>
  (ibB_ok (List.all_eq_true.mp odd_ibB d hd)).mono (Nat.le_trans (by unfold bg; decide +kernel) hB)
section
variable {K : PySem.W.Frag} {mg : Str → Option Value} {base : Heap} {P : Program} {w : World}
abbrev nBent : List Str := ["_law_well_here", "_law_thing", "_law_way", "_law_some", "_law_at"]
theorem scBent : FnScope nBent ["_law_well_here", "_law_thing"] (defScope (top 32)) := ⟨rfl, rfl, rfl, by decide +kernel, rfl, by decide +kernel, by decide +kernel⟩
theorem ok_bent {f : Addr} {fd : FuncData} (F : FnP K "_law_bent" (top 32) f fd) (T : Bl K mg) (hD : Has P w K mg base "_law_draw" ["_law_well_here", "_law_many"] 1 spDraw) (hP : Has P w K mg base "_law_pick" ["_law_well_here", "_law_some"] 2 (spPick K))
    (hO : Has P w K mg base "_law_odd" ["_law_well_here"] 3 (spOdd oddL)) : FnOk P w K mg base CX0 4 f fd ["_law_well_here", "_law_thing"] spBent := by
  obtain ⟨fD, fdD, kD, gD, bD, GD⟩ := hD
  obtain ⟨fP, fdP, kP, gP, bP, GP⟩ := hP
  obtain ⟨fO, fdO, kO, gO, bO, GO⟩ := hO
  refine F.ok scBent (fun vs H Q E h => ?_) (fun cdv A outer s H vs Q E hr h => ?_)
  · obtain ⟨w, v, d, B, c, rfl, _⟩ := h
    rfl
  · obtain ⟨w, v, d, B, c, rfl, hd, hsh, hsz, hib, hB0, hB, hw, hc, q⟩ := h
    have sc := scBent
    have hrD : Room 1 _ := hr.mono (by omega)
    have hrP : Room 2 _ := hr.mono (by omega)
    have hrO : Room 3 _ := hr
    refine ⟨_, PSs.nox (pss_cons (ps_set (i := 2) sc.nd rfl (Or.inl rfl) (pe_call GD hrD rfl gD kD bD .nil pass0 (pa_cons (pv 0) (pa_cons pe_int pa_nil)))) (pss_cons (ps_if (PW.pt (pw_and (pt_cmpR op_lt (pv 2) pe_int (nomark _)) (pw_and (pt_val (pe_callB call_isi (by rfl) T.isinstance (by decide +kernel) (pa_cons (pv 1) (pa_cons (pe_bltn (v := .ty "int") (by rfl) T.int (by decide +kernel) rfl) pa_nil)))) (pw_and1 (pt_not (pt_val (pe_callB call_isi (by rfl) T.isinstance (by decide +kernel) (pa_cons (pv 1) (pa_cons (pe_bltn (v := .ty "bool") (by rfl) T.bool (by decide +kernel) rfl) pa_nil))))))))) (pss_one (ps_ret (pe_op op_sub (pe_op op_add (pv 1) (pe_op op_mul pe_int (pv 2))) pe_int))) pss_nil) (pss_cons (ps_if (PW.pt (pw_and (pt_cmpR op_lt (pv 2) pe_int (nomark _)) (pw_and1 (pt_val (pe_callB call_isi (by rfl) T.isinstance (by decide +kernel) (pa_cons (pv 1) (pa_cons (pe_bltn (v := .ty "str") (by rfl) T.str (by decide +kernel) rfl) pa_nil))))))) (pss_cons (ps_set (i := 3) sc.nd rfl (Or.inl rfl) (pe_tup (pa_cons pe_str (pa_cons pe_str (pa_cons pe_str (pa_cons pe_str (pa_cons pe_str (pa_cons pe_str (pa_cons pe_str (pa_cons pe_str (pa_cons pe_str (pa_cons pe_str (pa_cons pe_str (pa_cons pe_str (pa_cons pe_str (pa_cons pe_str pa_nil)))))))))))))))) (pss_one (ps_ret (pe_call GP hrP rfl gP kP bP .nil pass0 (pa_cons (pv 0) (pa_cons (pv 3) pa_nil)))))) pss_nil) (pss_cons (ps_if (PW.pt (pw_or (pt_cmpR op_lt (pv 2) pe_int (nomark _)) (pw_or (pt_not (pt_val (pe_callB call_isi (by rfl) T.isinstance (by decide +kernel) (pa_cons (pv 1) (pa_cons (pe_bltn (v := .ty "tuple") (by rfl) T.tuple (by decide +kernel) rfl) pa_nil))))) (pw_or1 (pt_cmpR op_eq (pe_callB call_len (by rfl) T.len (by decide +kernel) (pa_cons (pv 1) pa_nil)) pe_int (nomark _)))))) (pss_one (ps_ret (pe_call GO hrO rfl gO kO bO .nil pass0 (pa_cons (pv 0) pa_nil)))) pss_nil) (pss_cons (ps_set (i := 4) sc.nd rfl (Or.inl rfl) (pe_call GD hrD rfl gD kD bD .nil pass0 (pa_cons (pv 0) (pa_cons (pe_callB call_len (by rfl) T.len (by decide +kernel) (pa_cons (pv 1) pa_nil)) pa_nil)))) (pss_cons (ps_if (pt_cmpR op_eq (pv 2) pe_int (nomark _)) (pss_one (ps_ret (pe_op op_catA (pe_slice sl_tupA (pv 1) po_none (po_some (pv 4))) (pe_slice sl_tupA (pv 1) (po_some (pe_op op_add (pv 4) pe_int)) po_none)))) pss_nil) (pss_cons (ps_if (pt_cmpR op_eq (pv 2) pe_int (nomark _)) (pss_one (ps_ret (pe_op op_catA (pe_op op_catA (pe_slice sl_tupA (pv 1) po_none (po_some (pv 4))) (pe_tup (pa_cons (pe_ix ix_tup (pv 1) (pv 4) (fun _ _ => rfl)) pa_nil))) (pe_slice sl_tupA (pv 1) (po_some (pv 4)) po_none)))) pss_nil) (pss_cons (ps_if (pt_cmpR op_eq (pv 2) pe_int (nomark _)) (pss_one (ps_ret (pe_op op_catA (pv 1) (pe_tup (pa_cons (pe_call GO hrO rfl gO kO bO .nil pass0 (pa_cons (pv 0) pa_nil)) pa_nil))))) pss_nil) (pss_one (ps_ret (pe_ifExp (pt_cmpR op_eq (pv 2) pe_int (nomark _)) (pe_revT (pv 1)) (pe_callTy call_list_of (by rfl) T.list (by decide +kernel) (pa_cons (pv 1) pa_nil))))))))))))), ?_⟩
    have big : ∀ k : Nat, k ≤ 1000 → k ≤ sizeLine := fun k h => Nat.le_of_lt (small1000 h)
    have oddq : ∀ e ∈ oddL, Bt B d e := fun e he => by
      have h := List.all_eq_true.mp odd_sh e he
      simp only [Bool.and_eq_true, decide_eq_true_eq] at h; exact Bt.small h.1 (by omega) (by omega) ((odd_ib hB0 e he).mono (Nat.le_succ B))
    refine ⟨_, rfl, w, 9, c, rfl, hw, by omega, by decide, by decide, fun b c1 H1 b0 b1 k1 w1 e1 => ?_⟩
    have hd1 := hd.kw k1
    obtain ⟨ty, tyx, ki, kb, kt, ks⟩ := tyD (K := K) hd1
    -- a number beside it
    refine seq_if (tst_and (tst_lt (m := b) rfl) fun _ => tst_and (y := !isBool d) (fun Q q => ⟨_, rfl, _, _, ty, _, _, rfl, .ty _, tyx, ki, _, rfl, q⟩) fun _ => tst_not fun Q q => ⟨_, rfl, _, _, ty, _, _, rfl, .ty _, tyx, kb, _, rfl, q⟩) (fun g => ?_) (fun g => ?_)
    · simp only [Bool.and_eq_true, decide_eq_true_eq] at g
      obtain ⟨g1, g2, g3⟩ := g
      obtain ⟨i, rfl⟩ : ∃ i, d = .int i := by
        cases d with
        | int i => exact ⟨i, rfl⟩
        | bool x => cases g3
        | _ => cases g2
      have ev := hd1.intI
      subst ev
      rw [IB] at hib
      have hz : (i + 2 * b - 1).natAbs ≤ B + 1 := by omega
      refine ⟨_, rfl, _, rfl, _, _, rfl, rfl, .inl ⟨by decide, by decide⟩, _, _, rfl, rfl, _, _, rfl, rfl, ?_⟩
      refine q _ (.int (i + 2 * b - 1)) c1 H1 (.int _) (Bt.small (int_shows (c := 9001) (by decide) (by omega)) (by simp only [PyData.depth]; omega) (Nat.le_trans (int_long (c := 9001) (by decide) (by omega)) (by decide)) (by rw [IB]; exact hz)) k1 w1 (by omega)
    -- another word
    refine seq_if (tst_and (tst_lt (m := b) rfl) fun _ => fun Q q => ⟨_, rfl, _, _, ty, _, _, rfl, .ty _, tyx, ks, _, rfl, q⟩) (fun g2 => ?_) (fun g2 => ?_)
    · refine ⟨big _ (by show (14 : Nat) ≤ 1000; decide), fun t nt => ?_⟩
      have sm := @Same.new t _ (.tup (bentW.map V.str)) nt
      refine ⟨_, rfl, _, rfl, w, t, bentW.map V.str, c1, rfl, w1.same sm, by omega, SqT.of upd_same, by decide, by decide, fun j v c2 H2 hi k2 w2 e2 => ?_⟩
      obtain ⟨x, rfl, hx⟩ := any_words hi
      have xz := of_decide_eq_true (List.all_eq_true.mp bentW_short x hx)
      exact q _ (.str x) c2 _ (.str x) (Bt.small (by simp only [PyData.showable]) (by simp only [PyData.depth]; omega) (by omega) (by rw [IB]; exact True.intro)) (k1.trans ((Kw.same sm).trans k2)) w2 (by omega)
    -- one of any kind
    refine seq_if (tst_or (tst_lt (m := b) rfl) fun _ => tst_or (tst_not fun Q q => ⟨_, rfl, _, _, ty, _, _, rfl, .ty _, tyx, kt, _, rfl, q⟩) fun g => (fun Q q => (by
      obtain ⟨ds, rfl⟩ := isTup_of (d := d) (by simpa using g)
      obtain ⟨t, xs, rfl, ft, ht, rt⟩ := hd1.tupI
      refine ⟨_, rfl, _, _, rfl, .inr ⟨_, SqT.of ht, rfl⟩, rfl, _, rfl, ?_⟩
      rw [lenZ_of rt] at q
      exact q) : Tst _ _ H1 (lenZ d))) (fun g3 => ?_) (fun g3 => ?_)
    · refine ⟨_, rfl, w, c1, rfl, w1, by omega, fun i v' e c2 H2 he de k2 w2 e2 => ?_⟩
      exact q v' e c2 H2 (de.nw w1.some) (oddq e (List.mem_of_getElem? he)) (k1.trans k2) w2 (by omega)
    simp only [Bool.or_eq_false_iff, decide_eq_false_iff_not] at g3
    obtain ⟨g4, g5, g6⟩ := g3
    obtain ⟨ds, rfl⟩ := isTup_of (d := d) (by simpa using g5)
    have dn : ds ≠ [] := fun z => by
      subst z
      cases g6
    have dl : ds.length ≠ 0 := fun z => dn (List.length_eq_zero_iff.mp z)
    have lz : 2 * ds.length ≤ szA ds := szA_len ds
    have sz0 := sz_tup ds
    have ln : ∀ {H' : Hp}, Dt (Nw w) H' v (.tuple ds) → ∃ a xs, v = .ref a ∧ SqT K H' a xs ∧ xs.length = ds.length := fun h => lenD h
    obtain ⟨a, xs, rfl, hxs, lx⟩ := ln hd1
    refine ⟨_, rfl, _, rfl, _, _, rfl, .inr ⟨_, hxs, rfl⟩, w, _, c1, rfl, w1, by omega, by omega, by omega, fun r c2 H2 r0 r1 k2 w2 e2 => ?_⟩
    have hd2 := hd1.kw k2
    have k02 := k1.trans k2
    obtain ⟨i, rfl⟩ := Int.eq_ofNat_of_zero_le r0
    have il : i < ds.length := by omega
    have hi : i ≤ ds.length := by omega
    have hm : ds.length ≤ 4000000 := by omega
    have rows : ∀ {es : List PyData}, (∀ x ∈ es, x ∈ ds) → szA es ≤ 2 * szA ds → Bt B (.tuple ds) (.tuple es) := fun h1 h2 => bt_row hsh hib dn (fun x hx => .inl (h1 x hx)) (by omega)
    obtain ⟨di, hdi⟩ : ∃ di, ds[i]? = some di := ⟨_, List.getElem?_eq_getElem il⟩
    have spl := szA_split ds i
    have atz := szA_at hdi
    refine seq_if (tst_eq (m := b) rfl) (fun g => ?_) (fun g => ?_)
    · refine del_at (K := K) (i := i) w2 rfl rfl hd2 hi hm fun v' H3 d3 s3 => ?_
      exact q v' _ c2 H3 d3 (rows (fun x hx => (List.mem_append.mp hx).elim mem_take mem_drop) (by rw [szA_app]; omega)) (k02.trans (Kw.same s3)) (w2.same s3) (by omega)
    refine seq_if (tst_eq (m := b) rfl) (fun g => ?_) (fun g => ?_)
    · refine ins_at (K := K) (i := i) (P := fun e => e = di) (C := c2) w2 rfl rfl hd2 hi hm (fun H3 s3 Q' q' => ?_) fun v' e c' H3 pe d3 k3 w3 l3 => ?_
      · exact ⟨_, rfl, _, rfl, ixD (i := i) (hd2.keep s3) hdi fun x dx => q' x di c2 H3 dx rfl (Kw.refl w H3) (w2.same s3) (Int.le_refl _)⟩
      · subst pe
        refine q v' _ c' H3 d3 (rows (fun x hx => ?_) ?_) (k02.trans k3) w3 (by omega)
        · rcases (List.mem_append.mp hx) with hx | hx
          · rcases (List.mem_append.mp hx) with hx | hx
            · exact mem_take hx
            · rw [List.mem_singleton.mp hx]
              exact List.mem_of_getElem? hdi
          · exact mem_drop hx
        · rw [szA_app, szA_app, szA_one]
          omega
    refine seq_if (tst_eq (m := b) rfl) (fun g => ?_) (fun g => ?_)
    · refine ⟨_, rfl, _, rfl, w, c2, rfl, w2, by omega, fun j v' e c3 H3 he de k3 w3 e3 => ⟨big _ (by show (1 : Nat) ≤ 1000; decide), fun p np => ?_⟩⟩
      have dv := (de.nw w2.some)
      have dp : Dt (Nw w) (upd H3 p (.tup [v'])) (.ref p) (.tuple [e]) := layD (nwF w3) np (.cons dv .nil)
      have s4 := @Same.new p _ (.tup [v']) np
      have w4 := w3.same s4
      refine catD (K := K) (nwF w4) ((hd2.kw k3).keep s4) dp (by show _ + 1 ≤ _; omega) fun v5 H5 s5 d5 => ?_
      have ob := oddq e (List.mem_of_getElem? he)
      have oh := List.all_eq_true.mp odd_sh e (List.mem_of_getElem? he)
      simp only [Bool.and_eq_true, decide_eq_true_eq] at oh
      refine q v5 _ c3 H5 d5 (bt_row hsh hib dn (fun x hx => ?_) (by rw [szA_app, szA_one]; omega)) (k02.trans (k3.trans (Kw.same (s4.trans s5)))) (w4.same s5) (by omega); rcases (List.mem_append.mp hx) with hx | hx
      · exact .inl hx
      · rw [List.mem_singleton.mp hx]
        exact .inr ⟨oh.1, oh.2.1, ob.ib⟩
    refine tst_eq (m := b) (n := 7) (i := 2) rfl _ ?_
    obtain ⟨t, ys, et, ft, ht, rt⟩ := hd2.tupI
    cases et
    by_cases g7 : b = 7
    · refine ifT (decide_eq_true g7) ⟨_, rfl, _, ys, rfl, SqT.of ht, fun p np => ?_⟩
      refine q (.ref p) (.tuple ds.reverse) c2 _ (layD (nwF w2) np rt.reverse) (rows (fun x hx => List.mem_reverse.mp hx) (by rw [szA_rev]; omega)) (k02.trans (Kw.new np)) (w2.same (Same.new np)) (by omega)
    · refine ifF (decide_eq_false g7) ⟨_, rfl, _, ys, rfl, .inr (SqT.of ht), fun p np => ?_⟩
      exact q (.ref p) (.list ds) c2 _ (.lst (nwF w2 p np) upd_same (rt.keep (Same.new np))) (bt_lst hsh hib) (k02.trans (Kw.new np)) (w2.same (Same.new np)) (by omega)
end
end K3
namespace KB
open PySem L2 PySem.Spec PyProof.Rows
/-- spoilt(well, thing) -/
def spSpo : Sp := fun vs H Q _ => ∃ (w : Addr) (v : V) (d : PyData) (B : Nat) (c : Int), vs = [.ref w, v] ∧ Dt (Nw w) H v d ∧ d.showable = true ∧ sz d ≤ 4000000 ∧ IB B d ∧ bg ≤ B ∧ B ≤ bg + 9000 ∧ Wl H w c ∧ c + 11 < 2 ^ 60 ∧
  ∀ (v' : V) (e : PyData) (c' : Int) (H' : Hp), Dt (Nw w) H' v' e → Bt B d e → Kw w H H' → Wl H' w c' → c' ≤ c + 11 → Q v' H'
end KB
namespace K3
open PySem PySem.Spec PyProof.Rows L2 KB
section
variable {K : PySem.W.Frag} {mg : Str → Option Value} {base : Heap} {P : Program} {w : World}
abbrev nSpo : List Str := ["_law_well_here", "_law_thing", "_law_path", "_law_here", "_law_turn", "_law_at", "_law_whole"]
theorem scSpo : FnScope nSpo ["_law_well_here", "_law_thing"] (defScope (top 33)) := ⟨rfl, rfl, rfl, by decide +kernel, rfl, by decide +kernel, by decide +kernel⟩
theorem ok_spo {f : Addr} {fd : FuncData} (F : FnP K "_law_spoilt" (top 33) f fd) (T : Bl K mg) (hD : Has P w K mg base "_law_draw" ["_law_well_here", "_law_many"] 1 spDraw)
    (hB : Has P w K mg base "_law_bent" ["_law_well_here", "_law_thing"] 4 spBent) : FnOk P w K mg base CX0 5 f fd ["_law_well_here", "_law_thing"] spSpo := by
  obtain ⟨fD, fdD, kD, gD, bD, GD⟩ := hD
  obtain ⟨fB, fdB, kB, gB, bB, GB⟩ := hB
  refine F.ok scSpo (fun vs H Q E h => ?_) (fun cdv A outer s H vs Q E hr h => ?_)
  · obtain ⟨w, v, d, B, c, rfl, _⟩ := h
    rfl
  · obtain ⟨w, v, d, B, c, rfl, hd, hsh, hsz, hib, hB0, hB, hw, hc, q⟩ := h
    have sc := scSpo
    have hrD : Room 1 _ := hr.mono (by omega)
    have hrB : Room 4 _ := hr
    refine ⟨_, PSs.nox (pss_cons (ps_par (i := 2) (j := 3) (by rfl) sc.nd rfl rfl (by decide) rfl rfl (pa_cons (pe_lst pa_nil) (pa_cons (pv 1) pa_nil)) (by rfl)) (pss_cons (ps_for PassesOwn.never rfl (pi_range1 rfl T.range (pa_cons (pe_call GD hrD rfl gD kD bD .nil pass0 (pa_cons (pv 0) (pa_cons pe_int pa_nil))) pa_nil)) (pg_name (i := 4) sc.nd rfl (Or.inl rfl)) (pss_cons (ps_if (PW.pt (pw_or (pt_not (pt_val (pe_callB call_isi (by rfl) T.isinstance (by decide +kernel) (pa_cons (pv 3) (pa_cons (pe_bltn (v := .ty "tuple") (by rfl) T.tuple (by decide +kernel) rfl) pa_nil))))) (pw_or1 (pt_cmpR op_eq (pe_callB call_len (by rfl) T.len (by decide +kernel) (pa_cons (pv 3) pa_nil)) pe_int (nomark _))))) (pss_one ps_break) pss_nil) (pss_cons (ps_set (i := 5) sc.nd rfl (Or.inl rfl) (pe_call GD hrD rfl gD kD bD .nil pass0 (pa_cons (pv 0) (pa_cons (pe_callB call_len (by rfl) T.len (by decide +kernel) (pa_cons (pv 3) pa_nil)) pa_nil)))) (pss_cons (ps_expr (pe_bm PySem.F.plainAttrs_list PySem.F.slot_list_append PySem.F.type_list_append mt_append (pv 2) (pa_cons (pe_tup (pa_cons (pv 3) (pa_cons (pv 5) pa_nil))) pa_nil))) (pss_one (ps_set (i := 3) sc.nd rfl (Or.inl rfl) (pe_ix ix_tup (pv 3) (pv 5) (fun _ _ => rfl)))))))) (pss_cons (ps_set (i := 3) sc.nd rfl (Or.inl rfl) (pe_call GB hrB rfl gB kB bB .nil pass0 (pa_cons (pv 0) (pa_cons (pv 3) pa_nil)))) (pss_cons (ps_for PassesOwn.never rfl (pi_list (pe_revL (pv 2))) (pg_tup rfl (pgs_cons (pg_name (i := 6) sc.nd rfl (Or.inl rfl)) (pgs_cons (pg_name (i := 5) sc.nd rfl (Or.inl rfl)) pgs_nil))) (pss_one (ps_set (i := 3) sc.nd rfl (Or.inl rfl) (pe_op op_catA (pe_op op_catA (pe_slice sl_tupA (pv 6) po_none (po_some (pv 5))) (pe_tup (pa_cons (pv 3) pa_nil))) (pe_slice sl_tupA (pv 6) (po_some (pe_op op_add (pv 5) pe_int)) po_none))))) (pss_one (ps_ret (pv 3))))))), ?_⟩
    have big : ∀ k : Nat, k ≤ 1000 → k ≤ sizeLine := fun k h => Nat.le_of_lt (small1000 h)
    refine ⟨Nat.zero_le _, fun PA nP => ⟨_, rfl, _, _, rfl, ?_⟩⟩
    have s1 := @Same.new PA _ (.lst []) nP
    have hw1 := hw.same s1
    have wP : w ≠ PA := hw.ne nP
    have hP1 : (upd H PA (.lst [])) PA = some (.lst []) := upd_same
    have hd1 : Dt (Ot [PA, w]) (upd H PA (.lst [])) v d := (hd.ot.wide nP).keep s1
    have kp1 : Kp [PA, w] H (upd H PA (.lst [])) := Kp.same s1
    generalize upd H PA (.lst []) = H1 at hw1 hP1 hd1 kp1 ⊢
    refine ⟨_, rfl, w, 7, c, rfl, hw1, by omega, by decide, by decide, fun r c2 H2 r0 r1 k2 w2 e2 => ?_⟩
    have kp2 : Kp [PA, w] H H2 := kp1.trans (k2.kp (by simp))
    refine ⟨r, rfl, by omega, by omega, for_rangeB (lo := 0) (n := r.toNat) (fun i σ H3 => ∃ (u4 u5 : Option V) (hv : V) (x : PyData) (ps : List V) (rp : List (PyData × Nat)) (c3 : Int), σ = [some (.ref w), some v, some (.ref PA), some hv, u4, u5, none] ∧
      Kp [PA, w] H H3 ∧ H3 PA = some (.lst ps) ∧ DtA (Ot [PA, w]) H3 ps (rp.reverse.map pD) ∧ Dt (Ot [PA, w]) H3 hv x ∧ Ch d rp x ∧ Wl H3 w c3 ∧ c3 ≤ c + 1 + i ∧ rp.length = i)
      ⟨none, none, v, d, [], [], c2, rfl, kp2, k2 _ _ wP.symm hP1, .nil, hd1.kp (k2.kp (by simp)), rfl, w2, by omega, rfl⟩ ?_ ?_⟩
    · -- the way back
      rintro i σ H3 hi ⟨u4, u5, hv, x, ps, rp, c3, rfl, kp3, hP3, dps, dx, ch, w3, l3, len⟩
      obtain ⟨xsh, xib, xsz⟩ := ch_ok hsh hib ch
      refine ⟨_, rfl, _, rfl, w, hv, x, B, c3, rfl, dx.nwo (by simp), xsh, by omega, xib, hB0, hB, w3, by omega, fun v4 e4 c4 H4 d4 b4 k4 w4 l4 => ?_⟩
      have hP4 : H4 PA = some (.lst ps) := k4 _ _ wP.symm hP3
      refine ⟨_, rfl, PA, ps, rfl, SqL.of hP4, fun LA nL => ?_⟩
      have wL : w ≠ LA := w4.ne nL
      have hL : (upd H4 LA (.lst ps.reverse)) LA = some (.lst ps.reverse) := upd_same
      have s5 := @Same.new LA _ (.lst ps.reverse) nL
      have d5 := d4.keep s5
      have w5 := w4.same s5
      have items : DtA (Nw w) (upd H4 LA (.lst ps.reverse)) ps.reverse (rp.map pD) := by
        have h1 : DtA (Ot [PA, w]) H3 ps.reverse (rp.map pD) := by
          have := dps.reverse
          rwa [← List.map_reverse, List.reverse_reverse] at this
        have h2 : DtA (Nw w) H3 ps.reverse (rp.map pD) := h1.move fun a o f e => ⟨fun z => f (by rw [z]; simp), e⟩
        exact (h2.kw k4).keep s5
      have kp5 : Kw w H (upd H4 LA (.lst ps.reverse)) := ((Kp.thin kp3 nP).kw).trans (k4.trans (Kw.same s5))
      generalize upd H4 LA (.lst ps.reverse) = H5 at hL d5 w5 items kp5 ⊢
      refine ⟨LA, rfl, ⟨_, SqL.of hL⟩, for_list (K := K) (a := LA) (xs := ps.reverse) (fun i σ H6 => ∃ (u4 u5 u6 : Option V) (hv : V) (e tgt : PyData) (c6 : Int), σ = [some (.ref w), some v, some (.ref PA), some hv, u4, u5, u6] ∧
        Kw w H5 H6 ∧ Dt (Nw w) H6 hv e ∧ Ch d (rp.drop i) tgt ∧ Bt B tgt e ∧ Wl H6 w c6 ∧ c6 ≤ c4) ⟨_, _, _, v4, e4, x, c4, rfl, Kw.refl w H5, d5, ch, b4, w5, Int.le_refl _⟩
        (fun i σ H6 _ hP => (by
          obtain ⟨_, _, _, _, _, _, _, _, k6, _⟩ := hP
          exact SqL.of (k6 _ _ wL.symm hL))) ?_ ?_⟩
      · rintro j y σ H6 hj ⟨u4, u5, u6, hv, e, tgt, c6, rfl, k6, d6, ch6, b6, w6, l6⟩
        obtain ⟨dy, hdy, dty⟩ := items.get hj
        obtain ⟨⟨u, a⟩, hua, rfl⟩ : ∃ p, rp[j]? = some p ∧ pD p = dy := by
          rw [List.getElem?_map] at hdy
          cases e : rp[j]? with
          | none => rw [e] at hdy; cases hdy
          | some p => rw [e] at hdy; exact ⟨p, rfl, Option.some.inj hdy⟩
        obtain ⟨jl, je⟩ := List.getElem?_eq_some_iff.mp hua
        rw [List.drop_eq_getElem_cons jl, je] at ch6
        obtain ⟨⟨us, rfl, hus⟩, ch7⟩ := ch6
        obtain ⟨ush, uib, usz⟩ := ch_ok hsh hib ch7
        have ul := szA_len us
        rw [sz_tup] at usz
        obtain ⟨t, xs, rfl, ft, ht, rt⟩ := dty.tupI
        obtain ⟨uv, av, rfl, du, da⟩ := rt.two
        have ea := da.intI
        subst ea
        have du6 : Dt (Nw w) H6 uv (.tuple us) := Dt.kw du k6
        have al := (List.getElem?_eq_some_iff.mp hus).1
        refine ⟨t, _, rfl, SqT.of (k6 _ _ ft ht), rfl, _, _, rfl, _, _, rfl, rfl, ?_⟩
        refine rep_at (K := K) (i := a) (u := 6) (j := 5) (P := fun z => z = e) (C := c6) w6 rfl rfl du6 (by omega) (by omega) (fun H7 s7 Q' q' => ?_) fun v8 e8 c8 H8 pe d8 k8 w8 l8 => ?_
        · exact ⟨_, rfl, q' hv e c6 H7 (d6.keep s7) rfl (Kw.refl w H7) (w6.same s7) (Int.le_refl _)⟩
        · subst pe
          exact ⟨_, _, _, v8, _, .tuple us, c8, rfl, k6.trans k8, d8, ch7, bt_at ush uib hus b6, w8, by omega⟩
      · rintro σ H6 ⟨u4, u5, u6, hv, e, tgt, c6, rfl, k6, d6, ch6, b6, w6, l6⟩
        have ll := items.length
        rw [List.length_map] at ll
        rw [ll, List.drop_length] at ch6
        have et : tgt = d := ch6
        subst et
        exact ⟨_, rfl, q hv e c6 H6 d6 b6 (kp5.trans k6) w6 (by omega)⟩
    · -- the way down
      rintro hd i σ H3 hi ⟨u4, u5, hv, x, ps, rp, c3, rfl, kp3, hP3, dps, dx, ch, w3, l3, len⟩
      obtain ⟨xsh, xib, xsz⟩ := ch_ok hsh hib ch
      obtain ⟨ty, tyx, ki, kb, kt, ks⟩ := tyD (K := K) dx
      refine seq_if (tst_or (tst_not fun Q q => ⟨_, rfl, _, _, ty, _, _, rfl, .ty _, tyx, kt, _, rfl, q⟩) fun g => (fun Q q => (by
        obtain ⟨ds, rfl⟩ := isTup_of (d := x) (by simpa using g)
        obtain ⟨t, xs, rfl, ft, ht, rt⟩ := dx.tupI
        refine ⟨_, rfl, _, _, rfl, .inr ⟨_, SqT.of ht, rfl⟩, rfl, _, rfl, ?_⟩
        rw [lenZ_of rt] at q
        exact q) : Tst _ _ H3 (lenZ x))) (fun g => ?_) (fun g => ?_)
      · exact hd i _ H3 (by omega) ⟨_, u5, hv, x, ps, rp, c3, rfl, kp3, hP3, dps, dx, ch, w3, l3, len⟩
      · simp only [Bool.or_eq_false_iff] at g
        obtain ⟨g5, g6⟩ := g
        obtain ⟨ds, rfl⟩ := isTup_of (d := x) (by simpa using g5)
        have dn : ds.length ≠ 0 := fun z => by
          rw [List.length_eq_zero_iff.mp z] at g6
          cases g6
        have lz := szA_len ds
        rw [sz_tup] at xsz
        obtain ⟨t, xs, rfl, ft, ht, rt⟩ := dx.tupI
        have lx := rt.length
        refine ⟨_, rfl, _, rfl, _, _, rfl, .inr ⟨_, SqT.of ht, rfl⟩, w, _, c3, rfl, w3, by omega, by omega, by omega, fun a c4 H4 a0 a1 k4 w4 l4 => ?_⟩
        obtain ⟨a, rfl⟩ := Int.eq_ofNat_of_zero_le a0
        have al : a < ds.length := by omega
        have kq : Kp [PA, w] H3 H4 := k4.kp (by simp)
        have hP4 := k4 _ _ wP.symm hP3
        have ht4 := kq _ _ ft ht
        have lp := dps.length
        rw [List.length_map, List.length_reverse, len] at lp
        refine ⟨_, rfl, .inl ⟨rfl, _, SqL.of hP4⟩, _, rfl, _, rfl, big _ (by show (2 : Nat) ≤ 1000; decide), fun p np => ?_⟩
        have pP : PA ≠ p := ne_of_none hP4 np
        have pw : w ≠ p := w4.ne np
        refine ⟨PA, ps, _, rfl, rfl, by rw [upd_ne pP]; exact hP4, Nat.lt_of_le_of_lt (by omega : _ ≤ 10) (by decide), ?_⟩
        have k5 : Kp [PA, w] H4 (upd (upd H4 p (.tup [.ref t, .int a])) PA (.lst (ps ++ [.ref p]))) := (Kp.new np).trans (Kp.put (by simp))
        have ht5 := k5 _ _ ft ht4
        have hp5 : (upd (upd H4 p (.tup [.ref t, .int a])) PA (.lst (ps ++ [.ref p]))) p = some (.tup [.ref t, .int a]) := by
          rw [upd_ne (fun z => pP z.symm), upd_same]
        have w5 : Wl (upd (upd H4 p (.tup [.ref t, .int a])) PA (.lst (ps ++ [.ref p]))) w c4 := by
          obtain ⟨n, m, z, e, r⟩ := w4.same (Same.new (o := .tup [.ref t, .int a]) np)
          exact ⟨n, m, z, by rw [upd_ne wP]; exact e, r⟩
        have hP5 : (upd (upd H4 p (.tup [.ref t, .int a])) PA (.lst (ps ++ [.ref p]))) PA = some (.lst (ps ++ [.ref p])) := upd_same
        have rt5 := (rt.kp kq).kp k5
        have dps5 := (dps.kp kq).kp k5
        have fp : Ot [PA, w] p := by
          intro z; rcases (List.mem_cons.mp z) with z | z
          · exact pP z.symm
          · exact pw (List.mem_singleton.mp z).symm
        generalize upd (upd H4 p (.tup [.ref t, .int a])) PA (.lst (ps ++ [.ref p])) = H5 at k5 ht5 hp5 w5 hP5 rt5 dps5 ⊢
        obtain ⟨de, hde⟩ : ∃ de, ds[a]? = some de := ⟨_, List.getElem?_eq_getElem al⟩
        obtain ⟨xe, hxe, dxe⟩ := rt5.at_ hde
        refine ⟨_, rfl, _, rfl, t, xs, _, xe, rfl, rfl, SqT.of ht5, atI_nat hxe, ?_⟩
        refine ⟨_, _, xe, de, ps ++ [.ref p], (.tuple ds, a) :: rp, c4, rfl, kp3.trans (kq.trans k5), hP5, ?_, dxe, ⟨⟨ds, rfl, hde⟩, ch⟩, w5, by omega, by rw [List.length_cons, len]⟩
        rw [List.reverse_cons, List.map_append]
        exact dps5.append (.cons (.tup fp hp5 (.cons (.tup ft ht5 rt5) (.cons (.int _) .nil))) .nil)
end
end K3
namespace KB
open PySem L2 PySem.Spec PyProof.Rows
/-! ### laying data of what stands -/
def LE (F : Addr → Prop) (te : TE) (σ : L2.St) (H : Hp) (d : PyData) : Prop := ∀ H1, Same H H1 → ∀ Q : VK, (∀ v H2, Same H1 H2 → Dt F H2 v d → Q v H2) → te σ H1 Q
def LA (F : Addr → Prop) (ta : TA) (σ : L2.St) (H : Hp) (ds : List PyData) : Prop := ∀ H1, Same H H1 → ∀ Q : List V → Hp → Prop, (∀ vs H2, Same H1 H2 → DtA F H2 vs ds → Q vs H2) → ta σ H1 Q
section
variable {F : Addr → Prop} {σ : L2.St} {H : Hp} {d : PyData} {ds : List PyData} {te : TE} {ta : TA}
theorem le_var {i : Nat} {v : V} (h : σ[i]? = some (some v)) (hd : Dt F H v d) : LE F (tVar i) σ H d := fun H1 s1 Q q => ⟨_, h, q v H1 (Same.refl H1) (hd.keep s1)⟩
theorem le_str (x : Str) : LE F (tC (.str x)) σ H (.str x) := fun H1 s1 Q q => q _ H1 (Same.refl H1) (.str x)
theorem le_int (i : Int) : LE F (tC (.int i)) σ H (.int i) := fun H1 s1 Q q => q _ H1 (Same.refl H1) (.int i)
theorem la_nil : LA F tNil σ H [] := fun H1 s1 Q q => q _ H1 (Same.refl H1) .nil
theorem la_cons (h : LE F te σ H d) (r : LA F ta σ H ds) : LA F (tCons te ta) σ H (d :: ds) := fun H1 s1 Q q =>
  h H1 s1 _ fun v H2 s2 dv => r H2 (s1.trans s2) _ fun vs H3 s3 da => q _ H3 (s2.trans s3) (.cons (dv.keep s3) da)
theorem le_tup (hF : ∀ p, H p = none → F p) (h : LA F ta σ H ds) (hz : ds.length ≤ 1000) : LE F (tTup ta) σ H (.tuple ds) := fun H1 s1 Q q =>
  h H1 s1 _ fun vs H2 s2 da => ⟨Nat.le_of_lt (small1000 (by rw [da.length]; exact hz)), fun p np => q _ _ (s2.trans (Same.new np)) (layD (fun c hc => hF c ((s1.trans s2).free hc)) np da)⟩
theorem par3 {i j l : Nat} {D : Ends} {x y z : PyData} (h : LA F ta σ H [x, y, z]) (q : ∀ a b c H1, Same H H1 → Dt F H1 a x → Dt F H1 b y → Dt F H1 c z → D.nx (((σ.set i (some a)).set j (some b)).set l (some c)) H1) : tPar3 i j l ta D σ H :=
  h H (Same.refl H) _ fun vs H1 s1 da => (by
    obtain ⟨a, b, c, rfl, d1, d2, d3⟩ := da.three
    exact ⟨a, b, c, rfl, q a b c H1 s1 d1 d2 d3⟩)
end
theorem vv_show {N : Nat} (hN : 10 * N ≤ 10000) {k : Kd} {d : PyData} (h : VV N k d) : d.showable = true := by
  induction h with
  | num i hi => exact int_shows hN hi
  | unit => simp only [PyData.showable, PyData.showableAll]
  | lst hl h ih => exact sh_tup.mpr ih
  | pair hx hy ihx ihy => simp only [PyData.showable, PyData.showableAll, ihx, ihy, Bool.and_self]
  | left hx ih => simp only [PyData.showable, PyData.showableAll, ih, Bool.and_self]
  | right hx ih => simp only [PyData.showable, PyData.showableAll, ih, Bool.and_self]
/-- tower(well) -/
structure Tw (k : Kd) (d e : PyData) (i : Nat) : Prop where
  cl : k.closed = true
  nf : k.noFn = true
  dp : k.dep ≤ i + 1
  kz : k.kz ≤ 2 * i + 1
  v1 : VV 4 k d
  v2 : VV 4 k e
  z1 : sz d ≤ 40 * i + 320
  z2 : sz e ≤ 40 * i + 320
theorem tw_lst {k : Kd} {d e : PyData} {i : Nat} (h : Tw k d e i) : Tw (.lst k) (.tuple [d]) (.tuple [e]) (i + 1) := by
  have h1 := h.dp; have h2 := h.kz; have h3 := h.z1; have h4 := h.z2
  refine ⟨h.cl, h.nf, by show k.dep + 1 ≤ _; omega, by show k.kz + 1 ≤ _; omega, .lst (by show 1 ≤ 4; decide) fun x hx => by rw [List.mem_singleton.mp hx]; exact h.v1, .lst (by show 1 ≤ 4; decide) fun x hx => by rw [List.mem_singleton.mp hx]; exact h.v2, by rw [sz_tup, szA_one]; omega, by rw [sz_tup, szA_one]; omega⟩
theorem sz_int0 : sz (.int 0) ≤ 2 := by decide +kernel
theorem sz_int1 : sz (.int 1) ≤ 2 := by decide +kernel
theorem sz_unit0 : sz (.tuple []) = 3 := by decide +kernel
theorem tw_pairN {k : Kd} {d e : PyData} {i : Nat} (h : Tw k d e i) : Tw (.pair k .num) (.tuple [.str "pair", d, .int 0]) (.tuple [.str "pair", e, .int 1]) (i + 1) := by
  have h1 := h.dp; have h2 := h.kz; have h3 := h.z1; have h4 := h.z2; have z0 := sz_int0; have z1 := sz_int1; have zw := sz_word "pair" (by decide +kernel)
  refine ⟨by show (k.closed && true) = true; rw [h.cl]; rfl, by show (k.noFn && true) = true; rw [h.nf]; rfl, by show max k.dep 1 + 1 ≤ _; omega, by show k.kz + 1 + 1 ≤ _; omega, .pair h.v1 (.num 0 (Nat.zero_le _)), .pair h.v2 (.num 1 (Nat.le_trans (by decide : 1 ≤ 10 * 4) (Nat.le_add_left _ _))), ?_, ?_⟩
  · rw [sz_tup, szA, szA, szA, szA]; omega
  · rw [sz_tup, szA, szA, szA, szA]; omega
theorem tw_pairU {k : Kd} {d e : PyData} {i : Nat} (h : Tw k d e i) : Tw (.pair .unit k) (.tuple [.str "pair", .tuple [], d]) (.tuple [.str "pair", .tuple [], e]) (i + 1) := by
  have h1 := h.dp; have h2 := h.kz; have h3 := h.z1; have h4 := h.z2; have z0 := sz_unit0; have zw := sz_word "pair" (by decide +kernel)
  refine ⟨by show (true && k.closed) = true; rw [h.cl]; rfl, by show (true && k.noFn) = true; rw [h.nf]; rfl, by show max 1 k.dep + 1 ≤ _; omega, by show 1 + k.kz + 1 ≤ _; omega, .pair .unit h.v1, .pair .unit h.v2, ?_, ?_⟩
  · rw [sz_tup, szA, szA, szA, szA]; omega
  · rw [sz_tup, szA, szA, szA, szA]; omega
theorem tw_left {k : Kd} {d e : PyData} {i : Nat} (h : Tw k d e i) : Tw (.eith k .num) (.tuple [.str "left", d]) (.tuple [.str "left", e]) (i + 1) := by
  have h1 := h.dp; have h2 := h.kz; have h3 := h.z1; have h4 := h.z2; have zw := sz_word "left" (by decide +kernel)
  refine ⟨by show (k.closed && true) = true; rw [h.cl]; rfl, by show (k.noFn && true) = true; rw [h.nf]; rfl, by show max k.dep 1 + 1 ≤ _; omega, by show k.kz + 1 + 1 ≤ _; omega, .left h.v1, .left h.v2, ?_, ?_⟩
  · rw [sz_tup, szA, szA, szA]; omega
  · rw [sz_tup, szA, szA, szA]; omega
theorem tw_right {k : Kd} {d e : PyData} {i : Nat} (h : Tw k d e i) : Tw (.eith .unit k) (.tuple [.str "right", d]) (.tuple [.str "right", e]) (i + 1) := by
  have h1 := h.dp; have h2 := h.kz; have h3 := h.z1; have h4 := h.z2; have zw := sz_word "right" (by decide +kernel)
  refine ⟨by show (true && k.closed) = true; rw [h.cl]; rfl, by show (true && k.noFn) = true; rw [h.nf]; rfl, by show max 1 k.dep + 1 ≤ _; omega, by show 1 + k.kz + 1 ≤ _; omega, .right h.v1, .right h.v2, ?_, ?_⟩
  · rw [sz_tup, szA, szA, szA]; omega
  · rw [sz_tup, szA, szA, szA]; omega
def spTow : Sp := fun vs H Q _ => ∃ (w : Addr) (c : Int), vs = [.ref w] ∧ Wl H w c ∧ c + 40 < 2 ^ 60 ∧
  ∀ (a : Addr) (kv v1 v2 : V) (k : Kd) (d e : PyData) (c' : Int) (H' : Hp), H' a = some (.tup [kv, v1, v2]) → Dt (Nw w) H' kv k.d → Dt (Nw w) H' v1 d → Dt (Nw w) H' v2 e → Tw k d e 99 → Kw w H H' → Wl H' w c' → c' ≤ c + 40 → Q (.ref a) H'
end KB
namespace K3
open PySem PySem.Spec PyProof.Rows L2 KB
section
variable {K : PySem.W.Frag} {mg : Str → Option Value} {base : Heap} {P : Program} {w : World}
abbrev nTow : List Str := ["_law_well_here", "_law_kind_here", "_law_one", "_law_two", "_law_turn", "_law_way"]
theorem scTow : FnScope nTow ["_law_well_here"] (defScope (top 38)) := ⟨rfl, rfl, rfl, by decide +kernel, rfl, by decide +kernel, by decide +kernel⟩
theorem ok_tow {f : Addr} {fd : FuncData} (F : FnP K "_law_tower" (top 38) f fd) (T : Bl K mg) (hD : Has P w K mg base "_law_draw" ["_law_well_here", "_law_many"] 1 spDraw) (hP : Has P w K mg base "_law_pick" ["_law_well_here", "_law_some"] 2 (spPick K))
    (hN : Has P w K mg base "_law_number" ["_law_well_here"] 3 spNum) : FnOk P w K mg base CX0 4 f fd ["_law_well_here"] spTow := by
  obtain ⟨fD, fdD, kD, gD, bD, GD⟩ := hD
  obtain ⟨fP, fdP, kP, gP, bP, GP⟩ := hP
  obtain ⟨fN, fdN, kN, gN, bN, GN⟩ := hN
  refine F.ok scTow (fun vs H Q E h => ?_) (fun cdv A outer s H vs Q E hr h => ?_)
  · obtain ⟨w, c, rfl, _⟩ := h
    rfl
  · obtain ⟨w, c, rfl, hw, hc, q⟩ := h
    have sc := scTow
    have hrD : Room 1 _ := hr.mono (by omega)
    have hrP : Room 2 _ := hr.mono (by omega)
    have hrN : Room 3 _ := hr
    refine ⟨_, PSs.nox (pss_cons (ps_par3 (i := 1) (j := 2) (l := 3) (by rfl) sc.nd rfl rfl rfl (by decide) (by decide) (by decide) rfl rfl rfl (pa_cons (pe_tup (pa_cons pe_str pa_nil)) (pa_cons (pe_call GN hrN rfl gN kN bN .nil pass0 (pa_cons (pv 0) pa_nil)) (pa_cons (pe_call GN hrN rfl gN kN bN .nil pass0 (pa_cons (pv 0) pa_nil)) pa_nil))) (by rfl)) (pss_cons (ps_for PassesOwn.never rfl (pi_range1 rfl T.range (pa_cons (pe_call GP hrP rfl gP kP bP .nil pass0 (pa_cons (pv 0) (pa_cons (pe_tup (pa_cons pe_int (pa_cons pe_int (pa_cons pe_int pa_nil)))) pa_nil))) pa_nil)) (pg_name (i := 4) sc.nd rfl (Or.inl rfl)) (pss_cons (ps_set (i := 5) sc.nd rfl (Or.inl rfl) (pe_ifExp (pt_cmpR op_lt (pv 4) pe_int (nomark _)) (pe_call GD hrD rfl gD kD bD .nil pass0 (pa_cons (pv 0) (pa_cons pe_int pa_nil))) (pe_op op_mod (pe_callTy call_int1 (by rfl) T.int (by decide +kernel) (pa_cons (pv 4) pa_nil)) pe_int))) (pss_one (ps_if (pt_cmpR op_eq (pv 5) pe_int (nomark _)) (pss_one (ps_par3 (i := 1) (j := 2) (l := 3) (by rfl) sc.nd rfl rfl rfl (by decide) (by decide) (by decide) rfl rfl rfl (pa_cons (pe_tup (pa_cons pe_str (pa_cons (pv 1) pa_nil))) (pa_cons (pe_tup (pa_cons (pv 2) pa_nil)) (pa_cons (pe_tup (pa_cons (pv 3) pa_nil)) pa_nil))) (by rfl))) (pss_one (ps_if (pt_cmpR op_eq (pv 5) pe_int (nomark _)) (pss_one (ps_par3 (i := 1) (j := 2) (l := 3) (by rfl) sc.nd rfl rfl rfl (by decide) (by decide) (by decide) rfl rfl rfl (pa_cons (pe_tup (pa_cons pe_str (pa_cons (pv 1) (pa_cons (pe_tup (pa_cons pe_str pa_nil)) pa_nil)))) (pa_cons (pe_tup (pa_cons pe_str (pa_cons (pv 2) (pa_cons pe_int pa_nil)))) (pa_cons (pe_tup (pa_cons pe_str (pa_cons (pv 3) (pa_cons pe_int pa_nil)))) pa_nil))) (by rfl))) (pss_one (ps_if (pt_cmpR op_eq (pv 5) pe_int (nomark _)) (pss_one (ps_par3 (i := 1) (j := 2) (l := 3) (by rfl) sc.nd rfl rfl rfl (by decide) (by decide) (by decide) rfl rfl rfl (pa_cons (pe_tup (pa_cons pe_str (pa_cons (pe_tup (pa_cons pe_str pa_nil)) (pa_cons (pv 1) pa_nil)))) (pa_cons (pe_tup (pa_cons pe_str (pa_cons (pe_tup pa_nil) (pa_cons (pv 2) pa_nil)))) (pa_cons (pe_tup (pa_cons pe_str (pa_cons (pe_tup pa_nil) (pa_cons (pv 3) pa_nil)))) pa_nil))) (by rfl))) (pss_one (ps_if (pt_cmpR op_eq (pv 5) pe_int (nomark _)) (pss_one (ps_par3 (i := 1) (j := 2) (l := 3) (by rfl) sc.nd rfl rfl rfl (by decide) (by decide) (by decide) rfl rfl rfl (pa_cons (pe_tup (pa_cons pe_str (pa_cons (pv 1) (pa_cons (pe_tup (pa_cons pe_str pa_nil)) pa_nil)))) (pa_cons (pe_tup (pa_cons pe_str (pa_cons (pv 2) pa_nil))) (pa_cons (pe_tup (pa_cons pe_str (pa_cons (pv 3) pa_nil))) pa_nil))) (by rfl))) (pss_one (ps_par3 (i := 1) (j := 2) (l := 3) (by rfl) sc.nd rfl rfl rfl (by decide) (by decide) (by decide) rfl rfl rfl (pa_cons (pe_tup (pa_cons pe_str (pa_cons (pe_tup (pa_cons pe_str pa_nil)) (pa_cons (pv 1) pa_nil)))) (pa_cons (pe_tup (pa_cons pe_str (pa_cons (pv 2) pa_nil))) (pa_cons (pe_tup (pa_cons pe_str (pa_cons (pv 3) pa_nil))) pa_nil))) (by rfl))))))))))))) (pss_one (ps_ret (pe_tup (pa_cons (pv 1) (pa_cons (pv 2) (pa_cons (pv 3) pa_nil)))))))), ?_⟩
    have big : ∀ k : Nat, k ≤ 1000 → k ≤ sizeLine := fun k h => Nat.le_of_lt (small1000 h)
    refine ⟨big _ (by show (1 : Nat) ≤ 1000; decide), fun p np => ?_⟩
    have s1 := @Same.new p _ (.tup [.str "num"]) np
    have dk1 : Dt (Nw w) (upd H p (.tup [.str "num"])) (.ref p) Kd.num.d := layD (nwF hw) np (.cons (.str _) .nil)
    refine ⟨_, rfl, w, c, rfl, hw.same s1, by omega, fun i c1 H1 g1 b1 k1 w1 e1 => ?_⟩
    refine ⟨_, rfl, w, c1, rfl, w1, by omega, fun j c2 H2 g2 b2 k2 w2 e2 => ⟨_, _, _, rfl, ?_⟩⟩
    have dk2 := (dk1.kw k1).kw k2
    have zi : sz (.int i) ≤ 305 := by rw [sz]; exact g1.ln
    have zj : sz (.int j) ≤ 305 := by rw [sz]; exact g2.ln
    have tw0 : Tw .num (.int i) (.int j) 0 := ⟨rfl, rfl, Nat.le_refl _, Nat.le_refl _, .num i (Nat.le_trans b1 (Nat.le_add_right _ _)), .num j (Nat.le_trans b2 (Nat.le_add_right _ _)), by omega, by omega⟩
    have k02 := (Kw.same s1).trans (k1.trans k2)
    refine ⟨_, rfl, big _ (by show (3 : Nat) ≤ 1000; decide), fun t nt => ?_⟩
    have s3 := @Same.new t _ (.tup [.int 20, .int 40, .int 99]) nt
    refine ⟨w, t, _, c2, rfl, w2.same s3, by omega, SqT.of upd_same, by decide, by decide, fun m v c4 H4 hm k4 w4 e4 => ?_⟩
    obtain ⟨n, rfl, hn⟩ : ∃ n : Nat, v = V.int (n : Int) ∧ n ≤ 99 := by
      match m, hm with
      | 0, hm => exact ⟨20, (Option.some.inj hm).symm, by decide⟩
      | 1, hm => exact ⟨40, (Option.some.inj hm).symm, by decide⟩
      | 2, hm => exact ⟨99, (Option.some.inj hm).symm, by decide⟩
    have k04 := k02.trans ((Kw.same s3).trans k4)
    refine ⟨_, rfl, by omega, by omega, for_range (lo := 0) (n := (n : Int).toNat) (fun i σ H5 => ∃ (u4 u5 : Option V) (kv v1 v2 : V) (k : Kd) (d e : PyData) (c5 : Int), σ = [some (.ref w), some kv, some v1, some v2, u4, u5] ∧ Dt (Nw w) H5 kv k.d ∧ Dt (Nw w) H5 v1 d ∧ Dt (Nw w) H5 v2 e ∧ Tw k d e i ∧
      Kw w H H5 ∧ Wl H5 w c5 ∧ c5 ≤ c + 7 + min i 20) ⟨none, none, _, _, _, _, _, _, c4, rfl, (dk2.keep s3).kw k4, .int i, .int j, tw0, k04, w4, by omega⟩ ?_ ?_⟩
    · rintro x σ H5 hx ⟨u4, u5, kv, v1, v2, k, d, e, c5, rfl, dk, dd, de, tw, k5, w5, l5⟩
      refine ⟨_, rfl, _, _, rfl, rfl, _, rfl, ite2 (fun g => ?_) (fun g => ?_)⟩
      · have g1 : (0 : Int) + (x : Int) < 20 := of_decide_eq_true g
        refine ⟨_, rfl, w, 5, c5, rfl, w5, by omega, by decide, by decide, fun b c6 H6 b0 b5 k6 w6 l6 => ?_⟩
        have l7 : c6 ≤ c + 7 + (min (x + 1) 20 : Nat) := by omega
        have dk6 := dk.kw k6
        have dd6 := dd.kw k6
        have de6 := de.kw k6
        have hF := nwF w6
        refine one_if (tst_eq (m := b) rfl) (fun g => ?_) (fun g => ?_)
        · exact par3 (la_cons (le_tup hF (la_cons (le_str _) (la_cons (le_var (i := 1) rfl dk6) la_nil)) (by simp)) (la_cons (le_tup hF (la_cons (le_var (i := 2) rfl dd6) la_nil) (by simp)) (la_cons (le_tup hF (la_cons (le_var (i := 3) rfl de6) la_nil) (by simp)) la_nil))) fun a2 b2 c2 H7 s7 da db dc => ⟨_, _, a2, b2, c2, (.lst k), _, _, c6, rfl, da, db, dc, tw_lst tw, k5.trans (k6.trans (Kw.same s7)), w6.same s7, l7⟩
        refine one_if (tst_eq (m := b) rfl) (fun g => ?_) (fun g => ?_)
        · exact par3 (la_cons (le_tup hF (la_cons (le_str _) (la_cons (le_var (i := 1) rfl dk6) (la_cons (le_tup hF (la_cons (le_str _) la_nil) (by simp)) la_nil))) (by simp)) (la_cons (le_tup hF (la_cons (le_str _) (la_cons (le_var (i := 2) rfl dd6) (la_cons (le_int _) la_nil))) (by simp)) (la_cons (le_tup hF (la_cons (le_str _) (la_cons (le_var (i := 3) rfl de6) (la_cons (le_int _) la_nil))) (by simp)) la_nil))) fun a2 b2 c2 H7 s7 da db dc => ⟨_, _, a2, b2, c2, (.pair k .num), _, _, c6, rfl, da, db, dc, tw_pairN tw, k5.trans (k6.trans (Kw.same s7)), w6.same s7, l7⟩
        refine one_if (tst_eq (m := b) rfl) (fun g => ?_) (fun g => ?_)
        · exact par3 (la_cons (le_tup hF (la_cons (le_str _) (la_cons (le_tup hF (la_cons (le_str _) la_nil) (by simp)) (la_cons (le_var (i := 1) rfl dk6) la_nil))) (by simp)) (la_cons (le_tup hF (la_cons (le_str _) (la_cons (le_tup hF la_nil (by simp)) (la_cons (le_var (i := 2) rfl dd6) la_nil))) (by simp)) (la_cons (le_tup hF (la_cons (le_str _) (la_cons (le_tup hF la_nil (by simp)) (la_cons (le_var (i := 3) rfl de6) la_nil))) (by simp)) la_nil))) fun a2 b2 c2 H7 s7 da db dc => ⟨_, _, a2, b2, c2, (.pair .unit k), _, _, c6, rfl, da, db, dc, tw_pairU tw, k5.trans (k6.trans (Kw.same s7)), w6.same s7, l7⟩
        refine one_if (tst_eq (m := b) rfl) (fun g => ?_) (fun g => ?_)
        · exact par3 (la_cons (le_tup hF (la_cons (le_str _) (la_cons (le_var (i := 1) rfl dk6) (la_cons (le_tup hF (la_cons (le_str _) la_nil) (by simp)) la_nil))) (by simp)) (la_cons (le_tup hF (la_cons (le_str _) (la_cons (le_var (i := 2) rfl dd6) la_nil)) (by simp)) (la_cons (le_tup hF (la_cons (le_str _) (la_cons (le_var (i := 3) rfl de6) la_nil)) (by simp)) la_nil))) fun a2 b2 c2 H7 s7 da db dc => ⟨_, _, a2, b2, c2, (.eith k .num), _, _, c6, rfl, da, db, dc, tw_left tw, k5.trans (k6.trans (Kw.same s7)), w6.same s7, l7⟩
        exact par3 (la_cons (le_tup hF (la_cons (le_str _) (la_cons (le_tup hF (la_cons (le_str _) la_nil) (by simp)) (la_cons (le_var (i := 1) rfl dk6) la_nil))) (by simp)) (la_cons (le_tup hF (la_cons (le_str _) (la_cons (le_var (i := 2) rfl dd6) la_nil)) (by simp)) (la_cons (le_tup hF (la_cons (le_str _) (la_cons (le_var (i := 3) rfl de6) la_nil)) (by simp)) la_nil))) fun a2 b2 c2 H7 s7 da db dc => ⟨_, _, a2, b2, c2, (.eith .unit k), _, _, c6, rfl, da, db, dc, tw_right tw, k5.trans (k6.trans (Kw.same s7)), w6.same s7, l7⟩
      · refine ⟨_, rfl, .inl ⟨_, rfl, _, _, rfl, rfl, (by show (0 : Int) < 5; decide), ?_⟩⟩
        obtain ⟨b, hb⟩ : ∃ b : Int, ((0 : Int) + x) % 5 = b := ⟨_, rfl⟩
        show gName 5 (V.int (((0 : Int) + x) % 5)) _ _ _
        rw [hb]
        obtain ⟨c6, ec⟩ : ∃ c6, c6 = c5 := ⟨_, rfl⟩
        have k6 := Kw.refl w H5
        have w6 : Wl H5 w c6 := by rw [ec]; exact w5
        have l7 : c6 ≤ c + 7 + (min (x + 1) 20 : Nat) := by omega
        have dk6 := dk.kw k6
        have dd6 := dd.kw k6
        have de6 := de.kw k6
        have hF := nwF w6
        refine one_if (tst_eq (m := b) rfl) (fun g => ?_) (fun g => ?_)
        · exact par3 (la_cons (le_tup hF (la_cons (le_str _) (la_cons (le_var (i := 1) rfl dk6) la_nil)) (by simp)) (la_cons (le_tup hF (la_cons (le_var (i := 2) rfl dd6) la_nil) (by simp)) (la_cons (le_tup hF (la_cons (le_var (i := 3) rfl de6) la_nil) (by simp)) la_nil))) fun a2 b2 c2 H7 s7 da db dc => ⟨_, _, a2, b2, c2, (.lst k), _, _, c6, rfl, da, db, dc, tw_lst tw, k5.trans (k6.trans (Kw.same s7)), w6.same s7, l7⟩
        refine one_if (tst_eq (m := b) rfl) (fun g => ?_) (fun g => ?_)
        · exact par3 (la_cons (le_tup hF (la_cons (le_str _) (la_cons (le_var (i := 1) rfl dk6) (la_cons (le_tup hF (la_cons (le_str _) la_nil) (by simp)) la_nil))) (by simp)) (la_cons (le_tup hF (la_cons (le_str _) (la_cons (le_var (i := 2) rfl dd6) (la_cons (le_int _) la_nil))) (by simp)) (la_cons (le_tup hF (la_cons (le_str _) (la_cons (le_var (i := 3) rfl de6) (la_cons (le_int _) la_nil))) (by simp)) la_nil))) fun a2 b2 c2 H7 s7 da db dc => ⟨_, _, a2, b2, c2, (.pair k .num), _, _, c6, rfl, da, db, dc, tw_pairN tw, k5.trans (k6.trans (Kw.same s7)), w6.same s7, l7⟩
        refine one_if (tst_eq (m := b) rfl) (fun g => ?_) (fun g => ?_)
        · exact par3 (la_cons (le_tup hF (la_cons (le_str _) (la_cons (le_tup hF (la_cons (le_str _) la_nil) (by simp)) (la_cons (le_var (i := 1) rfl dk6) la_nil))) (by simp)) (la_cons (le_tup hF (la_cons (le_str _) (la_cons (le_tup hF la_nil (by simp)) (la_cons (le_var (i := 2) rfl dd6) la_nil))) (by simp)) (la_cons (le_tup hF (la_cons (le_str _) (la_cons (le_tup hF la_nil (by simp)) (la_cons (le_var (i := 3) rfl de6) la_nil))) (by simp)) la_nil))) fun a2 b2 c2 H7 s7 da db dc => ⟨_, _, a2, b2, c2, (.pair .unit k), _, _, c6, rfl, da, db, dc, tw_pairU tw, k5.trans (k6.trans (Kw.same s7)), w6.same s7, l7⟩
        refine one_if (tst_eq (m := b) rfl) (fun g => ?_) (fun g => ?_)
        · exact par3 (la_cons (le_tup hF (la_cons (le_str _) (la_cons (le_var (i := 1) rfl dk6) (la_cons (le_tup hF (la_cons (le_str _) la_nil) (by simp)) la_nil))) (by simp)) (la_cons (le_tup hF (la_cons (le_str _) (la_cons (le_var (i := 2) rfl dd6) la_nil)) (by simp)) (la_cons (le_tup hF (la_cons (le_str _) (la_cons (le_var (i := 3) rfl de6) la_nil)) (by simp)) la_nil))) fun a2 b2 c2 H7 s7 da db dc => ⟨_, _, a2, b2, c2, (.eith k .num), _, _, c6, rfl, da, db, dc, tw_left tw, k5.trans (k6.trans (Kw.same s7)), w6.same s7, l7⟩
        exact par3 (la_cons (le_tup hF (la_cons (le_str _) (la_cons (le_tup hF (la_cons (le_str _) la_nil) (by simp)) (la_cons (le_var (i := 1) rfl dk6) la_nil))) (by simp)) (la_cons (le_tup hF (la_cons (le_str _) (la_cons (le_var (i := 2) rfl dd6) la_nil)) (by simp)) (la_cons (le_tup hF (la_cons (le_str _) (la_cons (le_var (i := 3) rfl de6) la_nil)) (by simp)) la_nil))) fun a2 b2 c2 H7 s7 da db dc => ⟨_, _, a2, b2, c2, (.eith .unit k), _, _, c6, rfl, da, db, dc, tw_right tw, k5.trans (k6.trans (Kw.same s7)), w6.same s7, l7⟩
    · rintro σ H5 ⟨u4, u5, kv, v1, v2, k, d, e, c5, rfl, dk, dd, de, tw, k5, w5, l5⟩
      refine ⟨_, rfl, _, rfl, _, rfl, big _ (by show (3 : Nat) ≤ 1000; decide), fun a na => ?_⟩
      have s6 := @Same.new a _ (.tup [kv, v1, v2]) na
      have h1 := tw.dp; have h2 := tw.kz; have h3 := tw.z1; have h4 := tw.z2
      exact q a kv v1 v2 k d e c5 _ upd_same (dk.keep s6) (dd.keep s6) (de.keep s6) ⟨tw.cl, tw.nf, by omega, by omega, tw.v1, tw.v2, by omega, by omega⟩ (k5.trans (Kw.same s6)) (w5.same s6) (by omega)
end
end K3
namespace KB
open PySem L2 PySem.Spec PyProof.Rows
/-! ### a def called by keywords alone -/
section
variable {X : Cx} {CX : CXT} {k : Nat} {f : Addr} {fd : FuncData} {ps ks : List Str} {sp : Sp} {E : XK} {x : Str} {p pos : Pos} {kws : List Keyword} {tk : TA} {g : List Value → List Value → List Value} {gV : List V → List V → List V}
theorem pe_callK0 (F : FnOk X.prog X.w X.K X.mg X.base CX k f fd ps sp) (hr : Room k X.A) (hg : Gl X x) (hm : X.mg x = some (.ref f)) (hk : PySem.W.keepIn X.K (.ref f) = true) (hb : KBinds X.K fd ps ks g gV) (hx : Passes CX X E)
    (hkw : PK X kws tk) (hall : (backToKw pos (keywordEach kws X.env)).all (·.1.isSome) = true := by rfl) (hks : (backToKw pos (keywordEach kws X.env)).filterMap (·.1) = ks := by rfl)
    (hdb : (x == ("__debug__" : Str)) = false := by decide) (hpl : ((backTo pos (starEach [] X.env)).any (·.1) || (backToKw pos (keywordEach kws X.env)).any (·.1.isNone)) = false := by rfl) :
    PE X (.Call (.Name x p) [] kws pos) (fun σ H Q => tk σ H fun zs H2 => sp (gV [] zs) H2 Q E) :=
  ⟨fun pins s σ H Q I h => wpAny_Call_Name_kw (ld_glob I hg hm
    (PySem.W.callWith_KW0 (h₀ := X.base) I.ok.mod.kin hk hall (thn (hkw.run pos pins s σ H _ I h) fun ws s2 ⟨zs, H2, I2, rz, q2⟩ => ⟨I2.kIn, by
      rw [hks]
      exact run_fnk F hr hb hx I2 .nil rz q2⟩) hpl) hdb)⟩
theorem kb_of {K : PySem.W.Frag} {qual : Str} {params : Arguments} {body : List Stmt} {scope : Scope} (F : FunD K x qual params body scope [] [] f fd)
    (hb : ∀ (kV doc pm : Value) (an : Option Addr) (cdv ct : Value) (us ws : List Value), (g us ws).length = ps.length → bindArgs (PySem.W.fnOf x qual params body scope .none kV doc pm an cdv ct) ⟨us, ks.zip ws⟩ = pure (ps.zip (g us ws)))
    (hr : ∀ {vs : List V} {us : List Value} {zs : List V} {ws : List Value}, Vals vs us → Vals zs ws → Vals (gV vs zs) (g us ws)) : KBinds K fd ps ks g gV := by
  obtain ⟨oc, od, dV, kV, doc, pm, an, cdv, ct, osl, rfl, lk, hcd, hD, hK⟩ := F.ex; rcases hD with ⟨_, rfl⟩ | ⟨e, _⟩
  · exact ⟨fun s us ws _ hl => .of_eq (hb kV doc pm an cdv ct us ws hl), hr⟩
  · exact absurd rfl e
end
def g3 {α : Type} (us ws : List α) : List α := match us, ws with
  | [], [k, t, o] => [k, o, t]
  | _, _ => []
def g2 {α : Type} (us ws : List α) : List α := match us, ws with
  | [], [v, k] => [k, v]
  | _, _ => []
theorem g3_rel {vs : List V} {us : List Value} {zs : List V} {ws : List Value} (r : Vals vs us) (q : Vals zs ws) : Vals (g3 vs zs) (g3 us ws) := by
  cases r with
  | cons _ _ => exact .nil
  | nil =>
    cases q with
    | nil => exact .nil
    | cons a q => cases q with
      | nil => exact .nil
      | cons b q => cases q with
        | nil => exact .nil
        | cons c q => cases q with
          | nil => exact .cons a (.cons c (.cons b .nil))
          | cons _ _ => exact .nil
theorem g2_rel {vs : List V} {us : List Value} {zs : List V} {ws : List Value} (r : Vals vs us) (q : Vals zs ws) : Vals (g2 vs zs) (g2 us ws) := by
  cases r with
  | cons _ _ => exact .nil
  | nil =>
    cases q with
    | nil => exact .nil
    | cons a q => cases q with
      | nil => exact .nil
      | cons b q => cases q with
        | nil => exact .cons b (.cons a .nil)
        | cons c q => exact .nil
/-! ### repr of deep data -/
def rReprL : List V → Hp → VK → Prop := fun xs H Q => ∃ (F : Addr → Prop) (v : V) (d : PyData), xs = [v] ∧ Dt F H v d ∧ d.showable = true ∧ d.depth ≤ 180 ∧ sz d ≤ 10000000 ∧ Q (.str d.shown) H
theorem call_reprL {X : Cx} {k : Nat} (hS : SysIn X.K) (hg : X.A.guards = some []) (hr : Room k X.A) : CallR X (.builtin "repr") rReprL := by
  intro pins s σ H xs us Q I r h; obtain ⟨F, v, d, rfl, hd, sh, dp, zz, q⟩ := h
  have ln : d.shown.length ≤ sizeLine := Nat.le_trans (sz_shown d) (Nat.le_trans zz (by decide))
  obtain ⟨u, rfl, ru⟩ := vals1 r; obtain ⟨as, rd, hn⟩ := hd.reads I hS ru
  have room := hr.un
  cases rd with
  | none =>
    simp only [PyData.shown] at q
    exact PySem.P.repr_of_none ⟨.str _, H, I.tok _, ⟨_, rfl⟩, q⟩
  | bool b =>
    simp only [PyData.shown] at q
    exact PySem.P.repr_of_bool ⟨.str _, H, I.tok _, ⟨_, rfl⟩, q⟩
  | int i t =>
    simp only [PyData.shown] at q
    exact PySem.P.repr_of_int (by simpa [PyData.showable] using sh) ⟨.str _, H, I.tok _, ⟨_, rfl⟩, q⟩
  | str x t =>
    simp only [PyData.shown] at q ln
    exact PySem.P.repr_of_str ⟨.str _, H, I.tok _, ⟨_, rfl⟩, q⟩ ln
  | list h1 h2 h3 h4 => exact repr_of_reads' (.list h1 h2 h3 h4) sh (fun _ => hn) hg (by omega) (fun _ _ e => e) (fun h' u tk k => ⟨.str _, H, I.kept k, ⟨_, rfl⟩, q⟩) ln
  | tuple h1 h2 h3 h4 => exact repr_of_reads' (.tuple h1 h2 h3 h4) sh (fun _ => hn) hg (by omega) (fun _ _ e => e) (fun h' u tk k => ⟨.str _, H, I.kept k, ⟨_, rfl⟩, q⟩) ln
  | dict h1 h2 h3 h4 h5 => exact repr_of_reads' (.dict h1 h2 h3 h4 h5) sh (fun _ => hn) hg (by omega) (fun _ _ e => e) (fun h' u tk k => ⟨.str _, H, I.kept k, ⟨_, rfl⟩, q⟩) ln
def HasG (P : Program) (w : World) (K : PySem.W.Frag) (mg : Str → Option Value) (base : Heap) (x : Str) (ps : List Str) (k : Nat) (sp : Sp) : Prop :=
  ∃ (f : Addr) (fd : FuncData), PySem.W.keepIn K (.ref f) = true ∧ mg x = some (.ref f) ∧ Binds K fd ps [] ∧ FnG P w K mg base k f fd ps sp
/-- same(x, y), both of them the data d -/
def spSame : Sp := fun vs H Q _ => ∃ (F : Addr → Prop) (x y : V) (d : PyData), vs = [x, y] ∧ Dt F H x d ∧ Dt F H y d ∧ d.showable = true ∧ d.depth ≤ 180 ∧ sz d ≤ 10000000 ∧ Q (.bl true) H
/-- a value that is compared -/
structure Cv (k : Kd) (d : PyData) : Prop where
  v : VV 500 k d
  z : sz d ≤ 10000000
structure Ck0 (k : Kd) : Prop where
  cl : k.closed = true
  nf : k.noFn = true
  dp : k.dep ≤ 100
  kz : k.kz ≤ 10000
/-- are_ordered(kind, values, by_name) -/
def spAo : Sp := fun vs H Q _ => ∃ (F : Addr → Prop) (kv : V) (L : Addr) (b : Bool) (k : Kd) (xs : List V) (ds : List PyData), vs = [kv, .ref L, .bl b] ∧ Dt F H kv k.d ∧ Ck0 k ∧ H L = some (.lst xs) ∧ DtA F H xs ds ∧ (∀ d ∈ ds, Cv k d) ∧ ∀ H', Same H H' → Q (.bl true) H'
theorem cm_small {k : Kd} {d e : PyData} {r : Int} (h : Cm k d e r) : (PyData.int r).showable = true ∧ (PyData.int r).depth ≤ 180 ∧ sz (.int r) ≤ 10000000 := by
  rcases cm_range h with rfl | rfl | rfl
  · exact ⟨by decide +kernel, by decide +kernel, by decide +kernel⟩
  · exact ⟨by decide +kernel, by decide +kernel, by decide +kernel⟩
  · exact ⟨by decide +kernel, by decide +kernel, by decide +kernel⟩
end KB
namespace K3
open PySem PySem.Spec PyProof.Rows L2 KB
section
variable {K : PySem.W.Frag} {mg : Str → Option Value} {base : Heap} {P : Program} {w : World}
abbrev nSame : List Str := ["_law_one", "_law_two"]
theorem scSame : FnScope nSame nSame (defScope (top 28)) := ⟨rfl, rfl, rfl, by decide +kernel, rfl, by decide +kernel, by decide +kernel⟩
theorem ok_same {f : Addr} {fd : FuncData} (F : FnP K "_law_same" (top 28) f fd) (T : Bl K mg) : FnG P w K mg base 1 f fd nSame spSame := by
  refine okG F scSame (fun vs H Q h => ?_) (fun cdv A outer s H vs Q hgd hr h => ?_)
  · obtain ⟨F, x, y, d, rfl, _⟩ := h
    rfl
  · obtain ⟨F, x, y, d, rfl, dx, dy, sh, dp, zz, q⟩ := h
    have sc := scSame
    refine ⟨_, (pss_one (ps_ret (pe_cmpR op_eq (pe_callB (call_reprL T.sys hgd hr) (by rfl) T.repr (by decide +kernel) (pa_cons (pv 0) pa_nil)) (pe_callB (call_reprL T.sys hgd hr) (by rfl) T.repr (by decide +kernel) (pa_cons (pv 1) pa_nil)) (nomark _)))), ?_⟩
    refine ⟨_, rfl, F, x, d, rfl, dx, sh, dp, zz, _, rfl, F, y, d, rfl, dy, sh, dp, zz, rfl, ?_⟩
    have e : decide (V.str d.shown = V.str d.shown) = true := decide_eq_true rfl
    show Q (.bl (decide (V.str d.shown = V.str d.shown))) H
    rw [e]
    exact q
theorem kb_order {f : Addr} {fd : FuncData} (F : FnP K "order" (top 17) f fd) : KBinds K fd ["kind", "one", "two"] ["kind", "two", "one"] g3 g3 :=
  kb_of F (fun _ _ _ _ _ _ us ws hl => match us, ws, hl with
    | [], [_, _, _], _ => rfl
    | [], [], hl => nomatch hl
    | [], [_], hl => nomatch hl
    | [], [_, _], hl => nomatch hl
    | [], _ :: _ :: _ :: _ :: _, hl => nomatch hl
    | _ :: _, _, hl => nomatch hl) g3_rel
theorem kb_isv {f : Addr} {fd : FuncData} (F : FnP K "is_value" (top 16) f fd) : KBinds K fd ["kind", "value"] ["value", "kind"] g2 g2 :=
  kb_of F (fun _ _ _ _ _ _ us ws hl => match us, ws, hl with
    | [], [_, _], _ => rfl
    | [], [], hl => nomatch hl
    | [], [_], hl => nomatch hl
    | [], _ :: _ :: _ :: _, hl => nomatch hl
    | _ :: _, _, hl => nomatch hl) g2_rel
abbrev nAo : List Str := ["_law_kind_here", "_law_values", "_law_by_name", "_law_one", "_law_two", "_law_found"]
theorem scAo : FnScope nAo ["_law_kind_here", "_law_values", "_law_by_name"] (defScope (top 39)) := ⟨rfl, rfl, rfl, by decide +kernel, rfl, by decide +kernel, by decide +kernel⟩
theorem ok_ao {f fO : Addr} {fd fdO : FuncData} (F : FnP K "_law_are_ordered" (top 39) f fd) (T : Bl K mg) (FO : FnP K "order" (top 17) fO fdO) (gO : mg "order" = some (.ref fO)) (bO : Binds K fdO ["kind", "one", "two"] []) (GO : FnOk P w K mg base CX0 7 fO fdO ["kind", "one", "two"] spOr)
    (hL : Has P w K mg base "_law_order" ["_law_kind_here", "_law_one", "_law_two"] 101 (spOrd 100)) (hS : HasG P w K mg base "_law_same" nSame 1 spSame) : FnG P w K mg base 102 f fd ["_law_kind_here", "_law_values", "_law_by_name"] spAo := by
  obtain ⟨fL, fdL, kL, gL, bL, GL⟩ := hL
  obtain ⟨fS, fdS, kS, gS, bS, GS⟩ := hS
  have kO := FO.kp
  have kbO := kb_order FO
  refine okG F scAo (fun vs H Q h => ?_) (fun cdv A outer s H vs Q hgd hr h => ?_)
  · obtain ⟨F, kv, L, b, k, xs, ds, rfl, _⟩ := h
    rfl
  · obtain ⟨Fa, kv, L, b, k, xs, ds, rfl, hk, ck, hL, da, cv, q⟩ := h
    have sc := scAo
    have hrO : Room 7 _ := hr.mono (by omega)
    have hrL : Room 101 _ := hr
    have hrS : Room 1 _ := hr.mono (by omega)
    refine ⟨_, (pss_cons (ps_for PassesOwn.never rfl (pi_list (pv 1)) (pg_name (i := 3) sc.nd rfl (Or.inl rfl)) (pss_one (ps_for PassesOwn.never rfl (pi_list (pv 1)) (pg_name (i := 4) sc.nd rfl (Or.inl rfl)) (pss_cons (ps_set (i := 5) sc.nd rfl (Or.inl rfl) (pe_ifExp (pt_truth (pv 2) (by intro _; rfl)) (pe_callK0 GO hrO rfl gO kO kbO pass0 (pk_cons (pv 0) (pk_cons (pv 4) (pk_cons (pv 3) pk_nil)))) (pe_call GO hrO rfl gO kO bO .nil pass0 (pa_cons (pv 0) (pa_cons (pv 3) (pa_cons (pv 4) pa_nil)))))) (pss_one (ps_if (pt_not (pt_val (pe_callG GS hgd hrS rfl gS kS bS .nil (pa_cons (pv 5) (pa_cons (pe_call GL hrL rfl gL kL bL .nil pass0 (pa_cons (pv 0) (pa_cons (pv 3) (pa_cons (pv 4) pa_nil)))) pa_nil))))) (pss_one (ps_ret pe_bl)) pss_nil)))))) (pss_one (ps_ret pe_bl))), ?_⟩
    have hk0 := hk.any
    have da0 := da.any
    have hF : ∀ (H' : Hp) p, H' p = none → Ot [] p := fun _ p _ z => by cases z
    refine ⟨_, rfl, L, rfl, ⟨_, SqL.of hL⟩, for_list (K := K) (a := L) (xs := xs) (fun i σ H2 => Same H H2 ∧ ∃ u3 u4 u5 : Option V, σ = [some kv, some (.ref L), some (.bl b), u3, u4, u5]) ⟨Same.refl H, none, none, none, rfl⟩ (fun i σ H2 _ hP => SqL.of (hP.1 L _ hL)) ?_ ?_⟩
    · rintro i x σ H2 hi ⟨sm, u3, u4, u5, rfl⟩
      obtain ⟨d, hd, dx⟩ := da0.get hi
      have cd := cv d (List.mem_of_getElem? hd)
      refine ⟨_, rfl, L, rfl, ⟨_, SqL.of (sm L _ hL)⟩, for_list (K := K) (a := L) (xs := xs) (fun i σ H3 => Same H H3 ∧ ∃ u4 u5 : Option V, σ = [some kv, some (.ref L), some (.bl b), some x, u4, u5]) ⟨sm, u4, u5, rfl⟩ (fun i σ H3 _ hP => SqL.of (hP.1 L _ hL)) ?_ ?_⟩
      · rintro j y σ H3 hj ⟨sm3, u4, u5, rfl⟩
        obtain ⟨e, he, dy⟩ := da0.get hj
        have ce := cv e (List.mem_of_getElem? he)
        obtain ⟨r, cm⟩ := cm_ex cd.v ce.v
        have hk3 := hk0.keep sm3
        have dx3 := dx.keep sm3
        have dy3 := dy.keep sm3
        have sml := cm_small cm
        refine ⟨_, rfl, b, rfl, ?_⟩
        cases b with
        | true =>
          refine ifT rfl ⟨_, rfl, _, rfl, _, rfl, Ot [], kv, x, y, k, d, e, 500, 500, r, rfl, hF H3, hk3, ck.cl, ck.nf, ck.dp, ck.kz, dx3, dy3, cd.v, ce.v, cd.z, ce.z, cm, fun H4 s4 => ?_⟩
          refine ⟨_, rfl, _, rfl, _, rfl, _, rfl, Ot [], kv, x, y, k, d, e, 500, rfl, hk3.keep s4, dx3.keep s4, dy3.keep s4, ck.dp, ck.cl, ck.nf, cd.v, ce.v, fun r' H5 cm' s5 => ?_⟩
          obtain rfl := cm_one cm cm'
          exact ⟨Ot [], _, _, .int r, rfl, .int r, .int r, sml.1, sml.2.1, sml.2.2, _, rfl, ifF rfl ⟨sm3.trans (s4.trans s5), _, _, rfl⟩⟩
        | false =>
          refine ifF rfl ⟨_, rfl, _, rfl, _, rfl, Ot [], kv, x, y, k, d, e, 500, 500, r, rfl, hF H3, hk3, ck.cl, ck.nf, ck.dp, ck.kz, dx3, dy3, cd.v, ce.v, cd.z, ce.z, cm, fun H4 s4 => ?_⟩
          refine ⟨_, rfl, _, rfl, _, rfl, _, rfl, Ot [], kv, x, y, k, d, e, 500, rfl, hk3.keep s4, dx3.keep s4, dy3.keep s4, ck.dp, ck.cl, ck.nf, cd.v, ce.v, fun r' H5 cm' s5 => ?_⟩
          obtain rfl := cm_one cm cm'
          exact ⟨Ot [], _, _, .int r, rfl, .int r, .int r, sml.1, sml.2.1, sml.2.2, _, rfl, ifF rfl ⟨sm3.trans (s4.trans s5), _, _, rfl⟩⟩
      · rintro σ H3 ⟨sm3, u4, u5, rfl⟩
        exact ⟨sm3, _, _, _, rfl⟩
    · rintro σ H2 ⟨sm, u3, u4, u5, rfl⟩
      exact q H2 sm
end
end K3
namespace KB
open PySem L2 PySem.Spec PyProof.Rows
/-- a thing that is judged -/
structure Jt (e : PyData) : Prop where
  sh : e.showable = true
  dp : e.depth ≤ 180
  z : sz e ≤ 10000000
structure Jv (k : Kd) (d : PyData) : Prop where
  v : VV 500 k d
  z : sz d ≤ 900000
theorem two_bools (b : Bool) : (PyData.list [.bool b, .bool b]).showable = true ∧ (PyData.list [.bool b, .bool b]).depth ≤ 180 ∧ sz (.list [.bool b, .bool b]) ≤ 10000000 := by
  cases b
  · exact ⟨by decide +kernel, by decide +kernel, by decide +kernel⟩
  · exact ⟨by decide +kernel, by decide +kernel, by decide +kernel⟩
/-- are_judged(well, kind, values) -/
def spAj : Sp := fun vs H Q _ => ∃ (w : Addr) (kv : V) (L : Addr) (k : Kd) (xs : List V) (ds : List PyData) (c : Int), vs = [.ref w, kv, .ref L] ∧ Dt (Nw w) H kv k.d ∧ Ck0 k ∧ H L = some (.lst xs) ∧ L ≠ w ∧ DtA (Nw w) H xs ds ∧ ds.length ≤ 3 ∧ (∀ d ∈ ds, Jv k d) ∧ Wl H w c ∧ c + 120 < 2 ^ 60 ∧
  ∀ (c' : Int) (H' : Hp), Kw w H H' → Wl H' w c' → c' ≤ c + 120 → Q (.bl true) H'
end KB
namespace K3
open PySem PySem.Spec PyProof.Rows L2 KB
theorem odd_jt : ∀ d ∈ oddL, Jt d := fun d hd => by
  have h := List.all_eq_true.mp odd_sh d hd
  simp only [Bool.and_eq_true, decide_eq_true_eq] at h; exact ⟨h.1, by omega, by omega⟩
section
variable {K : PySem.W.Frag} {mg : Str → Option Value} {base : Heap} {P : Program} {w : World}
abbrev nAj : List Str := ["_law_well_here", "_law_kind_here", "_law_values", "_law_value_here", "_law_once", "_law_thing", "_law_due", "_law_shown"]
theorem scAj : FnScope nAj ["_law_well_here", "_law_kind_here", "_law_values"] (defScope (top 40)) := ⟨rfl, rfl, rfl, by decide +kernel, rfl, by decide +kernel, by decide +kernel⟩
theorem ok_aj {f fI : Addr} {fd fdI : FuncData} (F : FnP K "_law_are_judged" (top 40) f fd) (T : Bl K mg) (FI : FnP K "is_value" (top 16) fI fdI) (gI : mg "is_value" = some (.ref fI)) (bI : Binds K fdI ["kind", "value"] []) (GI : FnOk P w K mg base CX0 7 fI fdI ["kind", "value"] spIv)
    (hV : Has P w K mg base "_law_is_value" ["_law_kind_here", "_law_thing"] 101 (spIsV 100)) (hP : Has P w K mg base "_law_spoilt" ["_law_well_here", "_law_thing"] 5 spSpo) (hO : Has P w K mg base "_law_odd" ["_law_well_here"] 3 (spOdd oddL))
    (hS : HasG P w K mg base "_law_same" nSame 1 spSame) : FnG P w K mg base 102 f fd ["_law_well_here", "_law_kind_here", "_law_values"] spAj := by
  obtain ⟨fV, fdV, kV, gV, bV, GV⟩ := hV
  obtain ⟨fP, fdP, kP, gP, bP, GP⟩ := hP
  obtain ⟨fO, fdO, kO, gO, bO, GO⟩ := hO
  obtain ⟨fS, fdS, kS, gS, bS, GS⟩ := hS
  have kI := FI.kp
  have kbI := kb_isv FI
  refine okG F scAj (fun vs H Q h => ?_) (fun cdv A outer s H vs Q hgd hr h => ?_)
  · obtain ⟨w, kv, L, k, xs, ds, c, rfl, _⟩ := h
    rfl
  · obtain ⟨w, kv, L, k, xs, ds, c, rfl, hk, ck, hL, Lw, da, dl, jv, hw, hc, q⟩ := h
    have sc := scAj
    have hrI : Room 7 _ := hr.mono (by omega)
    have hrV : Room 101 _ := hr
    have hrP : Room 5 _ := hr.mono (by omega)
    have hrO : Room 3 _ := hr.mono (by omega)
    have hrS : Room 1 _ := hr.mono (by omega)
    refine ⟨_, (pss_cons (ps_for PassesOwn.never rfl (pi_list (pv 2)) (pg_name (i := 3) sc.nd rfl (Or.inl rfl)) (pss_cons (ps_set (i := 4) sc.nd rfl (Or.inl rfl) (pe_call GP hrP rfl gP kP bP .nil pass0 (pa_cons (pv 0) (pa_cons (pv 3) pa_nil)))) (pss_one (ps_for PassesOwn.never rfl (pi_list (pe_lst (pa_cons (pv 3) (pa_cons (pv 4) (pa_cons (pe_call GP hrP rfl gP kP bP .nil pass0 (pa_cons (pv 0) (pa_cons (pv 3) pa_nil))) (pa_cons (pe_call GP hrP rfl gP kP bP .nil pass0 (pa_cons (pv 0) (pa_cons (pv 4) pa_nil))) (pa_cons (pe_call GO hrO rfl gO kO bO .nil pass0 (pa_cons (pv 0) pa_nil)) pa_nil))))))) (pg_name (i := 5) sc.nd rfl (Or.inl rfl)) (pss_cons (ps_par (i := 6) (j := 7) (by rfl) sc.nd rfl rfl (by decide) rfl rfl (pa_cons (pe_call GV hrV rfl gV kV bV .nil pass0 (pa_cons (pv 1) (pa_cons (pv 5) pa_nil))) (pa_cons (pe_callB (call_reprL T.sys hgd hr) (by rfl) T.repr (by decide +kernel) (pa_cons (pv 5) pa_nil)) pa_nil)) (by rfl)) (pss_cons (ps_if (pt_not (pt_val (pe_callG GS hgd hrS rfl gS kS bS .nil (pa_cons (pe_lst (pa_cons (pe_call GI hrI rfl gI kI bI .nil pass0 (pa_cons (pv 1) (pa_cons (pv 5) pa_nil))) (pa_cons (pe_callK0 GI hrI rfl gI kI kbI pass0 (pk_cons (pv 5) (pk_cons (pv 1) pk_nil))) pa_nil))) (pa_cons (pe_lst (pa_cons (pv 6) (pa_cons (pv 6) pa_nil))) pa_nil))))) (pss_one (ps_ret pe_bl)) pss_nil) (pss_one (ps_if (pt_cmpR op_ne (pe_callB (call_reprL T.sys hgd hr) (by rfl) T.repr (by decide +kernel) (pa_cons (pv 5) pa_nil)) (pv 7) (nomark _)) (pss_one (ps_ret pe_bl)) pss_nil)))))))) (pss_one (ps_ret pe_bl))), ?_⟩
    have big : ∀ k : Nat, k ≤ 1000 → k ≤ sizeLine := fun k h => Nat.le_of_lt (small1000 h)
    have la := da.length
    refine ⟨_, rfl, L, rfl, ⟨_, SqL.of hL⟩, for_list (K := K) (a := L) (xs := xs) (fun i σ H2 => ∃ (u3 u4 u5 u6 u7 : Option V) (c2 : Int), σ = [some (.ref w), some kv, some (.ref L), u3, u4, u5, u6, u7] ∧ Kw w H H2 ∧ Wl H2 w c2 ∧ c2 ≤ c + 40 * (i : Int)) ⟨none, none, none, none, none, c, rfl, Kw.refl w H, hw, by omega⟩
      (fun i σ H2 _ hP => (by
        obtain ⟨_, _, _, _, _, _, _, k2, _⟩ := hP
        exact SqL.of (k2 L _ Lw hL))) ?_ ?_⟩
    · rintro i x σ H2 hi ⟨u3, u4, u5, u6, u7, c2, rfl, k2, w2, l2⟩
      obtain ⟨d, hd, dx⟩ := da.get hi
      have il : i < xs.length := (List.getElem?_eq_some_iff.mp hi).1
      have jd := jv d (List.mem_of_getElem? hd)
      have dsh := vv_show (by decide) jd.v
      have dib : IB (bg + 5000) d := vv_ib jd.v
      have ddp := vv_depth jd.v
      have kdp := ck.dp
      have dz := jd.z
      have dx2 := dx.kw k2
      refine ⟨_, rfl, _, rfl, w, x, d, bg + 5000, c2, rfl, dx2, dsh, by omega, dib, Nat.le_add_right _ _, by omega, w2, by omega, fun v1 e1 c3 H3 d3 b3 k3 w3 l3 => ?_⟩
      have z3 := b3.ln
      have p3 := b3.dp
      refine ⟨_, rfl, _, rfl, _, rfl, _, rfl, w, x, d, bg + 5000, c3, rfl, dx2.kw k3, dsh, by omega, dib, Nat.le_add_right _ _, by omega, w3, by omega, fun v2 e2 c4 H4 d4 b4 k4 w4 l4 => ?_⟩
      have z4 := b4.ln
      have p4 := b4.dp
      refine ⟨_, rfl, _, rfl, w, v1, e1, bg + 5001, c4, rfl, d3.kw k4, b3.sh, by omega, b3.ib, by omega, by omega, w4, by omega, fun v3 e3 c5 H5 d5 b5 k5 w5 l5 => ?_⟩
      have z5 := b5.ln
      have p5 := b5.dp
      refine ⟨_, rfl, w, c5, rfl, w5, by omega, fun j v6 e6 c6 H6 he6 d6 k6 w6 l6 => ?_⟩
      have j6 := odd_jt e6 (List.mem_of_getElem? he6)
      refine ⟨big _ (by show (5 : Nat) ≤ 1000; decide), fun TL nT => ?_⟩
      have s7 := @Same.new TL _ (.lst [x, v1, v2, v3, v6]) nT
      have all : DtA (Nw w) (upd H6 TL (.lst [x, v1, v2, v3, v6])) [x, v1, v2, v3, v6] [d, e1, e2, e3, e6] :=
        .cons (((((dx2.kw k3).kw k4).kw k5).kw k6).keep s7) (.cons ((((d3.kw k4).kw k5).kw k6).keep s7) (.cons (((d4.kw k5).kw k6).keep s7) (.cons ((d5.kw k6).keep s7) (.cons ((d6.nw w5.some).keep s7) .nil))))
      have jts : ∀ e ∈ [d, e1, e2, e3, e6], Jt e := by
        intro e he
        simp only [List.mem_cons, List.not_mem_nil, or_false] at he
        rcases he with rfl | rfl | rfl | rfl | rfl
        · exact ⟨dsh, by omega, by omega⟩
        · exact ⟨b3.sh, by omega, by omega⟩
        · exact ⟨b4.sh, by omega, by omega⟩
        · exact ⟨b5.sh, by omega, by omega⟩
        · exact j6
      have hT : (upd H6 TL (.lst [x, v1, v2, v3, v6])) TL = some (.lst [x, v1, v2, v3, v6]) := upd_same
      have w7 := w6.same s7
      have k07 : Kw w H2 (upd H6 TL (.lst [x, v1, v2, v3, v6])) := k3.trans (k4.trans (k5.trans (k6.trans (Kw.same s7))))
      have hk7 : Dt (Nw w) (upd H6 TL (.lst [x, v1, v2, v3, v6])) kv k.d := (hk.kw k2).kw k07
      generalize upd H6 TL (.lst [x, v1, v2, v3, v6]) = H7 at all hT w7 k07 hk7 ⊢
      refine ⟨TL, rfl, ⟨_, SqL.of hT⟩, for_list (K := K) (a := TL) (xs := [x, v1, v2, v3, v6]) (fun i σ H8 => Same H7 H8 ∧ ∃ u5 u6 u7 : Option V, σ = [some (.ref w), some kv, some (.ref L), some x, some v1, u5, u6, u7]) ⟨Same.refl H7, u5, u6, u7, rfl⟩ (fun i σ H8 _ hP => SqL.of (hP.1 TL _ hT)) ?_ ?_⟩
      · rintro m y σ H8 hm ⟨s8, u5, u6, u7, rfl⟩
        obtain ⟨e, he, dy⟩ := all.get hm
        have je := jts e (List.mem_of_getElem? he)
        have dy8 := dy.keep s8
        have hk8 := hk7.keep s8
        refine ⟨_, rfl, _, rfl, Nw w, kv, y, k, e, e.depth, rfl, hk8, dy8, ck.dp, ck.cl, ck.nf, ⟨je.sh, Nat.le_refl _, je.z⟩, fun H9 s9 => ?_⟩
        have dy9 := dy8.keep s9
        have hk9 := hk8.keep s9
        refine ⟨_, rfl, Nw w, y, e, rfl, dy9, je.sh, je.dp, je.z, _, _, rfl, ?_⟩
        refine ⟨_, rfl, _, rfl, Nw w, kv, y, k, e, rfl, hk9, ck.cl, ck.nf, ck.dp, ck.kz, dy9, je.z, fun H10 s10 => ?_⟩
        refine ⟨_, rfl, _, rfl, Nw w, kv, y, k, e, rfl, hk9.keep s10, ck.cl, ck.nf, ck.dp, ck.kz, dy9.keep s10, je.z, fun H11 s11 => ?_⟩
        refine ⟨big _ (by show (2 : Nat) ≤ 1000; decide), fun p1 n1 => ⟨_, rfl, _, rfl, big _ (by show (2 : Nat) ≤ 1000; decide), fun p2 n2 => ?_⟩⟩
        have t2 := two_bools (isV k e)
        have sA := @Same.new p1 _ (.lst [.bl (isV k e), .bl (isV k e)]) n1
        have sB := @Same.new p2 _ (.lst [.bl (isV k e), .bl (isV k e)]) n2
        have l1 : Dt (Ot []) (upd (upd H11 p1 (.lst [.bl (isV k e), .bl (isV k e)])) p2 (.lst [.bl (isV k e), .bl (isV k e)])) (.ref p1) (.list [.bool (isV k e), .bool (isV k e)]) := .lst (fun z => by cases z) (sB _ _ upd_same) (.cons (.bl _) (.cons (.bl _) .nil))
        have l2 : Dt (Ot []) (upd (upd H11 p1 (.lst [.bl (isV k e), .bl (isV k e)])) p2 (.lst [.bl (isV k e), .bl (isV k e)])) (.ref p2) (.list [.bool (isV k e), .bool (isV k e)]) := .lst (fun z => by cases z) upd_same (.cons (.bl _) (.cons (.bl _) .nil))
        have sE := s9.trans (s10.trans (s11.trans (sA.trans sB)))
        refine ⟨Ot [], _, _, _, rfl, l1, l2, t2.1, t2.2.1, t2.2.2, _, rfl, ifF rfl ?_⟩
        refine ⟨_, rfl, Nw w, y, e, rfl, dy8.keep sE, je.sh, je.dp, je.z, _, rfl, rfl, _, rfl, ifF (by rw [decide_eq_true rfl]; rfl) ?_⟩
        exact ⟨s8.trans sE, _, _, _, rfl⟩
      · rintro σ H8 ⟨s8, u5, u6, u7, rfl⟩
        exact ⟨_, _, _, _, _, c6, rfl, k2.trans (k07.trans (Kw.same s8)), w7.same s8, by omega⟩
    · rintro σ H2 ⟨u3, u4, u5, u6, u7, c2, rfl, k2, w2, l2⟩
      exact q c2 H2 k2 w2 (by omega)
end
end K3
namespace KB
open PySem L2 PySem.Spec PyProof.Rows
/-- one promise out of some -/
theorem fnok_ex {P : Program} {w : World} {K : PySem.W.Frag} {mg : Str → Option Value} {base : Heap} {CX : CXT} {k N : Nat} {f : Addr} {fd : FuncData} {ps : List Str} {sp : Nat → Sp} (F : ∀ n, n ≤ N → FnOk P w K mg base CX k f fd ps (sp n)) :
    FnOk P w K mg base CX k f fd ps (fun vs H Q E => ∃ n, n ≤ N ∧ sp n vs H Q E) :=
  ⟨fun vs H Q E ⟨n, hn, h⟩ => (F n hn).len vs H Q E h, fun A outer s H args us vs Q E hr e0 hb hv ⟨n, hn, h⟩ => (F n hn).run A outer s H args us vs Q E hr e0 hb hv h⟩
theorem dta_map {F G : Addr → Prop} {H : Hp} : ∀ {vs : List V} {ds : List PyData}, DtA F H vs ds → (∀ d ∈ ds, ∀ v, Dt F H v d → Dt G H v d) → DtA G H vs ds
  | _, _, .nil, _ => .nil
  | _, _, .cons h r, k => .cons (k _ List.mem_cons_self _ h) (dta_map r fun d hd => k d (List.mem_cons_of_mem _ hd))
/-- a value holds no list -/
theorem vv_off {N : Nat} {F : Addr → Prop} {H : Hp} {L : Addr} {ys : List V} (hL : H L = some (.lst ys)) {k : Kd} {d : PyData} (h : VV N k d) : ∀ {v : V}, Dt F H v d → Dt (fun a => F a ∧ a ≠ L) H v d := by
  have ne : ∀ {a : Addr} {xs : List V}, H a = some (.tup xs) → a ≠ L := fun ha z => by
    rw [z, hL] at ha
    cases ha
  induction h with
  | num i hi =>
    intro v h
    rw [h.intI]
    exact .int i
  | unit =>
    intro v h
    obtain ⟨a, xs, rfl, f, ha, r⟩ := h.tupI
    cases r
    exact .tup ⟨f, ne ha⟩ ha .nil
  | lst hl h ih =>
    intro v h
    obtain ⟨a, xs, rfl, f, ha, r⟩ := h.tupI
    exact .tup ⟨f, ne ha⟩ ha (dta_map r fun d hd v hv => ih d hd hv)
  | pair hx hy ihx ihy =>
    intro v h
    obtain ⟨a, xs, rfl, f, ha, r⟩ := h.tupI
    obtain ⟨x0, x1, x2, rfl, e0, e1, e2⟩ := r.three
    rw [e0.strI] at ha
    exact .tup ⟨f, ne ha⟩ ha (.cons (.str _) (.cons (ihx e1) (.cons (ihy e2) .nil)))
  | left hx ih =>
    intro v h
    obtain ⟨a, xs, rfl, f, ha, r⟩ := h.tupI
    obtain ⟨x0, x1, rfl, e0, e1⟩ := r.two
    rw [e0.strI] at ha
    exact .tup ⟨f, ne ha⟩ ha (.cons (.str _) (.cons (ih e1) .nil))
  | right hx ih =>
    intro v h
    obtain ⟨a, xs, rfl, f, ha, r⟩ := h.tupI
    obtain ⟨x0, x1, rfl, e0, e1⟩ := r.two
    rw [e0.strI] at ha
    exact .tup ⟨f, ne ha⟩ ha (.cons (.str _) (.cons (ih e1) .nil))
theorem vv_two {N : Nat} {H : Hp} {L w : Addr} {ys : List V} (hL : H L = some (.lst ys)) {k : Kd} {d : PyData} (h : VV N k d) {v : V} (hv : Dt (Nw w) H v d) : Dt (Ot [L, w]) H v d :=
  (vv_off hL h hv).move fun a o f e => ⟨fun z => by
    rcases (List.mem_cons.mp z) with z | z
    · exact f.2 z
    · exact f.1 (List.mem_singleton.mp z), e⟩
theorem Dt.nwt {w : Addr} {S : List Addr} {H : Hp} {v : List V} {d : List PyData} (h : DtA (Ot S) H v d) (hw : w ∈ S) : DtA (Nw w) H v d := h.move fun a o f e => ⟨fun z => f (by rw [z]; exact hw), e⟩
theorem cut2 {a b : V} {r : List V} : cutV (a :: b :: r) none (some 2) = [a, b] := by
  unfold cutV
  rw [show ((2 : Int)) = ((2 : Nat) : Int) from rfl, HT.sIx_nat, HT.sIx_none, List.drop_zero, Nat.sub_zero, Nat.min_eq_left (by simp)]
  rfl
theorem cut1 {a : V} {r : List V} : cutV (a :: r) none (some 1) = [a] := by
  unfold cutV
  rw [show ((1 : Int)) = ((1 : Nat) : Int) from rfl, HT.sIx_nat, HT.sIx_none, List.drop_zero, Nat.sub_zero, Nat.min_eq_left (by simp)]
  rfl
theorem ck5 : ∀ n : Nat, n ≤ 5 → Ck n ≤ 126
  | 0, _ => by decide
  | 1, _ => by decide
  | 2, _ => by decide
  | 3, _ => by decide
  | 4, _ => by decide
  | 5, _ => by decide
  | n + 6, h => by omega
theorem vc5 : VC 5 ≤ 13280 := by decide
theorem vc2 : VC 2 ≤ 105 := by decide
theorem nc5 : NC 5 ≤ 4000 := by decide
theorem vl5 : VL 5 ≤ 900000 := by decide
theorem vl2 : VL 2 ≤ 5000 := by decide
theorem bz7 : BZ 7 4 ≤ 10000000 := by decide
theorem bz61 : BZ 61 2 ≤ 10000000 := by decide
theorem kz5 {k : Kd} (h : k.dep ≤ 5) : k.kz ≤ 10000 := by
  have h1 := Kd.kz_dep k
  have h2 : 2 ^ k.dep ≤ 2 ^ 5 := Nat.pow_le_pow_right (by decide) h
  have h3 : (2 : Nat) ^ 5 = 32 := by decide
  omega
/-- right(well) -/
def spOne : Sp := fun vs H Q _ => ∃ (w : Addr) (c : Int), vs = [.ref w] ∧ Wl H w c ∧ c + 200000 < 2 ^ 60 ∧ ∀ H' : Hp, Kw w H H' → Q (.bl true) H'
end KB
namespace K3
open PySem PySem.Spec PyProof.Rows L2 KB
section
variable {K : PySem.W.Frag} {mg : Str → Option Value} {base : Heap} {P : Program} {w : World}
abbrev nR : List Str := ["_law_well_here", "_law_turn", "_law_kind_here", "_law_values", "_law_lap", "_law_part", "_law_some", "_law_row", "_law_one", "_law_two"]
theorem scR : FnScope nR ["_law_well_here"] (defScope (top 41)) := ⟨rfl, rfl, rfl, by decide +kernel, rfl, by decide +kernel, by decide +kernel⟩
theorem ok_one {f : Addr} {fd : FuncData} (F : FnP K "_law_right" (top 41) f fd) (T : Bl K mg)
    (hK : Has P w K mg base "_law_kind" ["_law_well_here", "_law_deep", "_law_which"] 9 (fun vs H Q E => ∃ n, n ≤ 5 ∧ spKind n vs H Q E)) (hP : Has P w K mg base "_law_pick" ["_law_well_here", "_law_some"] 2 (spPick K))
    (hV : Has P w K mg base "_law_value" ["_law_well_here", "_law_kind_here"] 9 (fun vs H Q E => ∃ n, n ≤ 5 ∧ spVal n vs H Q E)) (hD : Has P w K mg base "_law_draw" ["_law_well_here", "_law_many"] 1 spDraw)
    (hN : Has P w K mg base "_law_near" ["_law_well_here", "_law_kind_here", "_law_value_here"] 10 (spNear 5)) (hO : Has P w K mg base "order" ["kind", "one", "two"] 7 spOr) (hL : Has P w K mg base "_law_order" ["_law_kind_here", "_law_one", "_law_two"] 101 (spOrd 100))
    (hT : Has P w K mg base "_law_tower" ["_law_well_here"] 4 spTow) (hS : HasG P w K mg base "_law_same" nSame 1 spSame) (hA : HasG P w K mg base "_law_are_ordered" ["_law_kind_here", "_law_values", "_law_by_name"] 102 spAo)
    (hJ : HasG P w K mg base "_law_are_judged" ["_law_well_here", "_law_kind_here", "_law_values"] 102 spAj) : FnG P w K mg base 103 f fd ["_law_well_here"] spOne := by
  obtain ⟨fK, fdK, kK, gK, bK, GK⟩ := hK
  obtain ⟨fP, fdP, kP, gP, bP, GP⟩ := hP
  obtain ⟨fV, fdV, kV, gV, bV, GV⟩ := hV
  obtain ⟨fD, fdD, kD, gD, bD, GD⟩ := hD
  obtain ⟨fN, fdN, kN, gN, bN, GN⟩ := hN
  obtain ⟨fO, fdO, kO, gO, bO, GO⟩ := hO
  obtain ⟨fL, fdL, kL, gL, bL, GL⟩ := hL
  obtain ⟨fT, fdT, kT, gT, bT, GT⟩ := hT
  obtain ⟨fS, fdS, kS, gS, bS, GS⟩ := hS
  obtain ⟨fA, fdA, kA, gA, bA, GA⟩ := hA
  obtain ⟨fJ, fdJ, kJ, gJ, bJ, GJ⟩ := hJ
  refine okG F scR (fun vs H Q h => ?_) (fun cdv A outer s H vs Q hgd hr h => ?_)
  · obtain ⟨w, c, rfl, _⟩ := h
    rfl
  · obtain ⟨w, c, rfl, hw, hc, q⟩ := h
    have sc := scR
    have hrK : Room 9 _ := hr.mono (by omega)
    have hrP : Room 2 _ := hr.mono (by omega)
    have hrV : Room 9 _ := hr.mono (by omega)
    have hrD : Room 1 _ := hr.mono (by omega)
    have hrN : Room 10 _ := hr.mono (by omega)
    have hrO : Room 7 _ := hr.mono (by omega)
    have hrL : Room 101 _ := hr.mono (by omega)
    have hrT : Room 4 _ := hr.mono (by omega)
    have hrS : Room 1 _ := hr.mono (by omega)
    have hrA : Room 102 _ := hr
    have hrJ : Room 102 _ := hr
    refine ⟨_, (pss_cons (ps_for PassesOwn.never rfl (pi_range1 rfl T.range (pa_cons pe_int pa_nil)) (pg_name (i := 1) sc.nd rfl (Or.inl rfl)) (pss_cons (ps_set (i := 2) sc.nd rfl (Or.inl rfl) (pe_call GK hrK rfl gK kK bK .nil pass0 (pa_cons (pv 0) (pa_cons (pe_call GP hrP rfl gP kP bP .nil pass0 (pa_cons (pv 0) (pa_cons (pe_tup (pa_cons pe_int (pa_cons pe_int (pa_cons pe_int (pa_cons pe_int pa_nil))))) pa_nil))) (pa_cons pe_int pa_nil))))) (pss_cons (ps_set (i := 3) sc.nd rfl (Or.inl rfl) (pe_lst (pa_cons (pe_call GV hrV rfl gV kV bV .nil pass0 (pa_cons (pv 0) (pa_cons (pv 2) pa_nil))) (pa_cons (pe_call GV hrV rfl gV kV bV .nil pass0 (pa_cons (pv 0) (pa_cons (pv 2) pa_nil))) pa_nil)))) (pss_cons (ps_for PassesOwn.never rfl (pi_range1 rfl T.range (pa_cons (pe_call GD hrD rfl gD kD bD .nil pass0 (pa_cons (pv 0) (pa_cons pe_int pa_nil))) pa_nil)) (pg_name (i := 4) sc.nd rfl (Or.inl rfl)) (pss_one (ps_expr (pe_bm PySem.F.plainAttrs_list PySem.F.slot_list_append PySem.F.type_list_append mt_append (pv 3) (pa_cons (pe_call GN hrN rfl gN kN bN .nil pass0 (pa_cons (pv 0) (pa_cons (pv 2) (pa_cons (pe_ix ix_list (pv 3) (pe_call GD hrD rfl gD kD bD .nil pass0 (pa_cons (pv 0) (pa_cons (pe_callB call_len (by rfl) T.len (by decide +kernel) (pa_cons (pv 3) pa_nil)) pa_nil))) (fun _ _ => rfl)) pa_nil)))) pa_nil))))) (pss_cons (ps_if (PW.pt (pw_or (pt_not (pt_val (pe_callG GA hgd hrA rfl gA kA bA .nil (pa_cons (pv 2) (pa_cons (pv 3) (pa_cons (pe_cmpR op_eq (pe_call GD hrD rfl gD kD bD .nil pass0 (pa_cons (pv 0) (pa_cons pe_int pa_nil))) pe_int (nomark _)) pa_nil)))))) (pw_or1 (pt_not (pt_val (pe_callG GJ hgd hrJ rfl gJ kJ bJ .nil (pa_cons (pv 0) (pa_cons (pv 2) (pa_cons (pe_slice sl_list (pv 3) po_none (po_some pe_int)) pa_nil))))))))) (pss_one (ps_ret pe_bl)) pss_nil) (pss_one (ps_if (pt_not (pt_val (pe_callG GS hgd hrS rfl gS kS bS .nil (pa_cons (pe_call GO hrO rfl gO kO bO .nil pass0 (pa_cons (pv 2) (pa_cons (pe_ix ix_list (pv 3) pe_int (fun _ _ => rfl)) (pa_cons (pe_ix ix_list (pv 3) (pe_un un_neg pe_int) (fun _ _ => rfl)) pa_nil)))) (pa_cons (pe_call GL hrL rfl gL kL bL .nil pass0 (pa_cons (pv 2) (pa_cons (pe_ix ix_list (pv 3) pe_int (fun _ _ => rfl)) (pa_cons (pe_ix ix_list (pv 3) (pe_un un_neg pe_int) (fun _ _ => rfl)) pa_nil)))) pa_nil))))) (pss_one (ps_ret pe_bl)) pss_nil))))))) (pss_cons (ps_par (i := 5) (j := 6) (by rfl) sc.nd rfl rfl (by decide) rfl rfl (pa_cons (pe_call GK hrK rfl gK kK bK .nil pass0 (pa_cons (pv 0) (pa_cons pe_int (pa_cons pe_int pa_nil)))) (pa_cons (pe_lst pa_nil) pa_nil)) (by rfl)) (pss_cons (ps_for PassesOwn.never rfl (pi_range1 rfl T.range (pa_cons (pe_call GP hrP rfl gP kP bP .nil pass0 (pa_cons (pv 0) (pa_cons (pe_tup (pa_cons pe_int (pa_cons pe_int (pa_cons pe_int pa_nil)))) pa_nil))) pa_nil)) (pg_name (i := 4) sc.nd rfl (Or.inl rfl)) (pss_one (ps_expr (pe_bm PySem.F.plainAttrs_list PySem.F.slot_list_append PySem.F.type_list_append mt_append (pv 6) (pa_cons (pe_call GV hrV rfl gV kV bV .nil pass0 (pa_cons (pv 0) (pa_cons (pv 5) pa_nil))) pa_nil))))) (pss_cons (ps_par (i := 7) (j := 2) (by rfl) sc.nd rfl rfl (by decide) rfl rfl (pa_cons (pe_callTy call_tuple_of (by rfl) T.tuple (by decide +kernel) (pa_cons (pv 6) pa_nil)) (pa_cons (pe_tup (pa_cons pe_str (pa_cons (pv 5) pa_nil))) pa_nil)) (by rfl)) (pss_cons (ps_set (i := 3) sc.nd rfl (Or.inl rfl) (pe_lst (pa_cons (pv 7) (pa_cons (pe_call GN hrN rfl gN kN bN .nil pass0 (pa_cons (pv 0) (pa_cons (pv 2) (pa_cons (pv 7) pa_nil)))) (pa_cons (pe_slice sl_tupA (pv 7) po_none (po_some (pe_call GD hrD rfl gD kD bD .nil pass0 (pa_cons (pv 0) (pa_cons (pe_callB call_len (by rfl) T.len (by decide +kernel) (pa_cons (pv 7) pa_nil)) pa_nil))))) pa_nil))))) (pss_cons (ps_if (PW.pt (pw_or (pt_not (pt_val (pe_callG GA hgd hrA rfl gA kA bA .nil (pa_cons (pv 2) (pa_cons (pv 3) (pa_cons pe_bl pa_nil)))))) (pw_or1 (pt_not (pt_val (pe_callG GJ hgd hrJ rfl gJ kJ bJ .nil (pa_cons (pv 0) (pa_cons (pv 2) (pa_cons (pe_slice sl_list (pv 3) po_none (po_some pe_int)) pa_nil))))))))) (pss_one (ps_ret pe_bl)) pss_nil) (pss_cons (ps_asg (pe_call GT hrT rfl gT kT bT .nil pass0 (pa_cons (pv 0) pa_nil)) (pg_tup rfl (pgs_cons (pg_name (i := 2) sc.nd rfl (Or.inl rfl)) (pgs_cons (pg_name (i := 8) sc.nd rfl (Or.inl rfl)) (pgs_cons (pg_name (i := 9) sc.nd rfl (Or.inl rfl)) pgs_nil))))) (pss_one (ps_ret (pe_and (pe_callG GA hgd hrA rfl gA kA bA .nil (pa_cons (pv 2) (pa_cons (pe_lst (pa_cons (pv 8) (pa_cons (pv 9) pa_nil))) (pa_cons pe_bl pa_nil)))) (pe_one (pe_callG GJ hgd hrJ rfl gJ kJ bJ .nil (pa_cons (pv 0) (pa_cons (pv 2) (pa_cons (pe_lst (pa_cons (pv 8) pa_nil)) pa_nil))))))))))))))), ?_⟩
    have big : ∀ k : Nat, k ≤ 1000 → k ≤ sizeLine := fun k h => Nat.le_of_lt (small1000 h)
    have v5 := vc5
    have v2 := vc2
    have n5 := nc5
    have hF : ∀ (H' : Hp) p, H' p = none → Ot [] p := fun _ p _ z => by cases z
    refine ⟨_, rfl, by decide, by decide, for_range (lo := 0) (n := 3) (fun i σ H2 => ∃ (u1 u2 u3 u4 : Option V) (c2 : Int), σ = [some (.ref w), u1, u2, u3, u4, none, none, none, none, none] ∧ Kw w H H2 ∧ Wl H2 w c2 ∧ c2 ≤ c + 40000 * (i : Int)) ⟨none, none, none, none, c, rfl, Kw.refl w H, hw, by omega⟩ ?_ ?_⟩
    · -- a turn
      rintro i σ H2 hi ⟨u1, u2, u3, u4, c2, rfl, k2, w2, l2⟩
      refine ⟨_, rfl, _, rfl, big _ (by show (4 : Nat) ≤ 1000; decide), fun t nt => ?_⟩
      have s3 := @Same.new t _ (.tup [.int 2, .int 3, .int 4, .int 5]) nt
      refine ⟨w, t, _, c2, rfl, w2.same s3, by omega, SqT.of upd_same, by decide, by decide, fun m v c4 H4 hm k4 w4 l4 => ?_⟩
      obtain ⟨n, rfl, hn2, hn5⟩ : ∃ n : Nat, v = V.int (n : Int) ∧ 2 ≤ n ∧ n ≤ 5 := by
        match m, hm with
        | 0, hm => exact ⟨2, (Option.some.inj hm).symm, by decide, by decide⟩
        | 1, hm => exact ⟨3, (Option.some.inj hm).symm, by decide, by decide⟩
        | 2, hm => exact ⟨4, (Option.some.inj hm).symm, by decide, by decide⟩
        | 3, hm => exact ⟨5, (Option.some.inj hm).symm, by decide, by decide⟩
      have cn := ck5 n hn5
      refine ⟨n, hn5, w, 2, c4, rfl, w4, by omega, fun kv k c5 H5 dk dp cl nf k5 w5 l5 => ?_⟩
      have cl := cl (by decide)
      have nf := nf (.inr rfl)
      have dp5 : k.dep ≤ 5 := by omega
      have k25 : Kw w H2 H5 := (Kw.same s3).trans (k4.trans k5)
      -- two values
      refine ⟨_, rfl, _, rfl, 5, by decide, w, kv, k, c5, rfl, dk, dp5, cl, nf, w5, by omega, fun a d1 c6 H6 da vv1 sd1 k6 w6 l6 => ?_⟩
      refine ⟨_, rfl, _, rfl, 5, by decide, w, kv, k, c6, rfl, dk.kw k6, dp5, cl, nf, w6, by omega, fun b d2 c7 H7 db vv2 sd2 k7 w7 l7 => ?_⟩
      refine ⟨big _ (by show (2 : Nat) ≤ 1000; decide), fun VL nV => ?_⟩
      have s8 := @Same.new VL _ (.lst [a, b]) nV
      have wV : w ≠ VL := w7.ne nV
      have da7 : Dt (Nw w) H7 a d1 := (da.nw w5.some).kw k7
      have db7 : Dt (Nw w) H7 b d2 := db.nw w6.some
      have dk7 : Dt (Nw w) H7 kv k.d := (dk.kw k6).kw k7
      have hV8 : (upd H7 VL (.lst [a, b])) VL = some (.lst [a, b]) := upd_same
      have w8 := w7.same s8
      have dk8 : Dt (Ot [VL, w]) (upd H7 VL (.lst [a, b])) kv k.d := (dk7.ot.wide nV).keep s8
      have rows8 : DtA (Ot [VL, w]) (upd H7 VL (.lst [a, b])) [a, b] [d1, d2] := .cons ((da7.ot.wide nV).keep s8) (.cons ((db7.ot.wide nV).keep s8) .nil)
      have k28 : Kw w H2 (upd H7 VL (.lst [a, b])) := k25.trans (k6.trans (k7.trans (Kw.same s8)))
      have kpV : ∀ {H' : Hp}, Kp [VL, w] (upd H7 VL (.lst [a, b])) H' → Kw w H2 H' := fun kp => (k25.trans (k6.trans k7)).trans (Kp.thin ((Kp.same s8).trans kp) nV).kw
      generalize upd H7 VL (.lst [a, b]) = H8 at hV8 w8 dk8 rows8 k28 kpV ⊢
      refine ⟨_, rfl, w, 4, c7, rfl, w8, by omega, by decide, by decide, fun r c9 H9 r0 r1 k9 w9 l9 => ?_⟩
      have kp9 : Kp [VL, w] H8 H9 := k9.kp (by simp)
      refine ⟨r, rfl, by omega, by omega, for_range (lo := 0) (n := r.toNat) (fun j σ H3 => ∃ (u4 : Option V) (xs : List V) (ds : List PyData) (c3 : Int), σ = [some (.ref w), some (.int (0 + (i : Int))), some kv, some (.ref VL), u4, none, none, none, none, none] ∧ Kp [VL, w] H8 H3 ∧
        H3 VL = some (.lst (a :: b :: xs)) ∧ DtA (Ot [VL, w]) H3 (a :: b :: xs) (d1 :: d2 :: ds) ∧ (∀ d ∈ d1 :: d2 :: ds, VV (4 + j) k d) ∧ ds.length = j ∧ Wl H3 w c3 ∧ c3 ≤ c9 + 4002 * (j : Int))
        ⟨u4, [], [], c9, rfl, kp9, k9 _ _ wV.symm hV8, rows8.kp kp9, (fun d hd => by
          rcases List.mem_cons.mp hd with z | z
          · rw [z]; exact vv1
          · rw [List.mem_singleton.mp z]; exact vv2), rfl, w9, by omega⟩ ?_ ?_⟩
      · -- another one
        rintro j σ H3 hj ⟨u4, xs, ds, c3, rfl, kp3, hV3, da3, vv3, len, w3, l3⟩
        have lx := da3.length
        simp only [List.length_cons] at lx
        refine ⟨_, rfl, .inl ⟨rfl, _, SqL.of hV3⟩, _, rfl, _, rfl, _, rfl, _, rfl, _, rfl, _, _, rfl, .inl ⟨_, SqL.of hV3, rfl⟩, w, _, c3, rfl, w3, by omega, by simp only [List.length_cons]; omega, by simp only [List.length_cons]; omega, fun m cA HA m0 m1 kA wA lA => ?_⟩
        obtain ⟨m, rfl⟩ := Int.eq_ofNat_of_zero_le m0
        have hVA := kA _ _ wV.symm hV3
        have kpA : Kp [VL, w] H3 HA := kA.kp (by simp)
        have ml : m < (a :: b :: xs).length := by
          simp only [List.length_cons] at m1 ⊢
          omega
        obtain ⟨x, hx⟩ : ∃ x, (a :: b :: xs)[m]? = some x := ⟨_, List.getElem?_eq_getElem ml⟩
        obtain ⟨dx, hdx, dtx⟩ := (da3.kp kpA).get hx
        have dkA : Dt (Ot [VL, w]) HA kv k.d := (dk8.kp kp3).kp kpA
        refine ⟨VL, _, _, x, rfl, rfl, SqL.of hVA, atI_nat hx, ?_⟩
        refine ⟨w, kv, x, k, dx, 4 + j, cA, rfl, dkA.nwo (by simp), dtx.nwo (by simp), vv3 dx (List.mem_of_getElem? hdx), by omega, by omega, dp5, cl, nf, wA, by omega, fun y e cB HB de vve kB wB lB => ?_⟩
        have hVB := kB _ _ wV.symm hVA
        have kpB : Kp [VL, w] HA HB := kB.kp (by simp)
        have de2 := vv_two hVB vve de
        refine ⟨VL, _, y, rfl, rfl, hVB, small1000 (by simp only [List.length_cons]; omega), ?_⟩
        have kpC : Kp [VL, w] HB (upd HB VL (.lst ((a :: b :: xs) ++ [y]))) := Kp.put (by simp)
        refine ⟨_, xs ++ [y], ds ++ [e], cB, rfl, kp3.trans (kpA.trans (kpB.trans kpC)), upd_same, (((da3.kp kpA).kp kpB).kp kpC).append (.cons (de2.kp kpC) .nil), ?_, by rw [List.length_append, len]; rfl, ?_, by omega⟩
        · intro d hd
          rcases List.mem_append.mp (show d ∈ (d1 :: d2 :: ds) ++ [e] from hd) with z | z
          · exact (vv3 d z).mono (by omega)
          · rw [List.mem_singleton.mp z]; exact vve
        · obtain ⟨n', m', z', e', r'⟩ := wB
          exact ⟨n', m', z', by rw [upd_ne wV]; exact e', r'⟩
      · -- they stand in order, are judged
        rintro σ H3 ⟨u4, xs, ds, c3, rfl, kp3, hV3, da3, vv3, len, w3, l3⟩
        have r3 : r.toNat ≤ 3 := by omega
        have dk3 := dk8.kp kp3
        refine ⟨_, rfl, _, rfl, _, rfl, w, 2, c3, rfl, w3, by omega, by decide, by decide, fun y cA HA y0 y1 kA wA lA => ⟨rfl, ?_⟩⟩
        have kpA : Kp [VL, w] H3 HA := kA.kp (by simp)
        have hVA := kA _ _ wV.symm hV3
        have daA := da3.kp kpA
        have dkA := dk3.kp kpA
        have ck : Ck0 k := ⟨cl, nf, by omega, kz5 dp5⟩
        have cvs : ∀ d ∈ d1 :: d2 :: ds, Cv k d := fun d hd => by
          have vv := vv3 d hd
          refine ⟨vv.mono (by omega), ?_⟩
          have z1 := vv_sz (M := 7) (by omega) (by decide) (by omega) vv
          have z2 := BZ_mono (M := 7) (by decide) (show k.dep - 1 ≤ 4 by omega)
          have z3 := bz7
          omega
        refine ⟨Ot [VL, w], kv, VL, _, k, _, _, rfl, dkA, ck, hVA, daA, cvs, fun HB sB => ⟨_, rfl, ifF rfl ?_⟩⟩
        have wB := wA.same sB
        have hVB := sB _ _ hVA
        refine ⟨_, rfl, _, rfl, _, rfl, _, rfl, VL, _, rfl, SqL.of hVB, fun p np => ?_⟩
        rw [cut2]
        have sC := @Same.new p _ (.lst [a, b]) np
        have wC := wB.same sC
        have daC := (daA.keep sB).keep sC
        have dkC := (dkA.keep sB).keep sC
        have two : DtA (Nw w) (upd HB p (.lst [a, b])) [a, b] [d1, d2] := by
          cases daC with
          | cons h1 r => cases r with
            | cons h2 r => exact .cons (h1.nwo (by simp)) (.cons (h2.nwo (by simp)) .nil)
        have sz1 := sd1.ln
        have sz2 := sd2.ln
        have vl := vl5
        refine ⟨w, kv, p, k, [a, b], [d1, d2], cA, rfl, dkC.nwo (by simp), ck, upd_same, (wB.ne np).symm, two, by show 2 ≤ 3; decide, ?_, wC, by omega, fun cD HD kD wD lD => ⟨_, rfl, ifF rfl ?_⟩⟩
        · intro d hd
          rcases List.mem_cons.mp hd with z | z
          · rw [z]; exact ⟨vv1.mono (by decide), by omega⟩
          · rw [List.mem_singleton.mp z]; exact ⟨vv2.mono (by decide), by omega⟩
        -- the first and the last
        have hVD := kD _ _ wV.symm (sC _ _ hVB)
        have kpD : Kp [VL, w] (upd HB p (.lst [a, b])) HD := kD.kp (by simp)
        have daD := daC.kp kpD
        have dkD := dkC.kp kpD
        obtain ⟨ys, z, exs⟩ : ∃ ys z, a :: b :: xs = ys ++ [z] := ⟨(a :: b :: xs).dropLast, (a :: b :: xs).getLast (by simp), (List.dropLast_concat_getLast (by simp)).symm⟩
        have hz : (a :: b :: xs)[ys.length]? = some z := by rw [exs]; simp
        obtain ⟨dz, hdz, dtz⟩ := daD.get hz
        have dta : Dt (Ot [VL, w]) HD a d1 := by
          cases daD with
          | cons h1 r => exact h1
        have cz := cvs dz (List.mem_of_getElem? hdz)
        have c1 := cvs d1 List.mem_cons_self
        obtain ⟨rr, cm⟩ := cm_ex c1.v cz.v
        have sml := cm_small cm
        have a0 : atI (a :: b :: xs) (0 : Int) = some a := atI_nat (j := 0) rfl
        have al : atI (a :: b :: xs) (-1 : Int) = some z := by rw [exs]; exact atI_last ys z
        refine ⟨_, rfl, _, rfl, VL, _, _, a, rfl, rfl, SqL.of hVD, a0, _, rfl, _, rfl, VL, _, _, z, rfl, rfl, SqL.of hVD, al, ?_⟩
        refine ⟨Ot [], kv, a, z, k, d1, dz, 500, 500, rr, rfl, hF HD, dkD.any, cl, nf, by omega, kz5 dp5, dta.any, dtz.any, c1.v, cz.v, c1.z, cz.z, cm, fun HE sE => ?_⟩
        have hVE := sE _ _ hVD
        refine ⟨_, rfl, _, rfl, VL, _, _, a, rfl, rfl, SqL.of hVE, a0, _, rfl, _, rfl, VL, _, _, z, rfl, rfl, SqL.of hVE, al, ?_⟩
        refine ⟨Ot [], kv, a, z, k, d1, dz, 500, rfl, dkD.any.keep sE, dta.any.keep sE, dtz.any.keep sE, by omega, cl, nf, c1.v, cz.v, fun r' HF cm' sF => ?_⟩
        obtain rfl := cm_one cm cm'
        refine ⟨Ot [], _, _, .int rr, rfl, .int rr, .int rr, sml.1, sml.2.1, sml.2.2, _, rfl, ifF rfl ?_⟩
        refine ⟨_, _, _, u4, cD, rfl, k2.trans ((kpV (kp3.trans kpA)).trans ((Kw.same (sB.trans sC)).trans (kD.trans (Kw.same (sE.trans sF))))), (wD.same sE).same sF, ?_⟩
        omega
    · -- a long row
      rintro σ H2 ⟨u1, u2, u3, u4, c2, rfl, k2, w2, l2⟩
      have cn := ck5 2 (by decide)
      refine ⟨_, rfl, 2, by decide, w, 2, c2, rfl, w2, by omega, fun pv k c3 H3 dk dp cl nf k3 w3 l3 => ?_⟩
      have cl := cl (by decide)
      have nf := nf (.inr rfl)
      have dp2 : k.dep ≤ 2 := by omega
      refine ⟨Nat.zero_le _, fun SL nS => ⟨_, _, rfl, ?_⟩⟩
      have s4 := @Same.new SL _ (.lst []) nS
      have wS : w ≠ SL := w3.ne nS
      have hS4 : (upd H3 SL (.lst [])) SL = some (.lst []) := upd_same
      have w4 := w3.same s4
      have dk4 : Dt (Ot [SL, w]) (upd H3 SL (.lst [])) pv k.d := (dk.ot.wide nS).keep s4
      have kpS : ∀ {H' : Hp}, Kp [SL, w] (upd H3 SL (.lst [])) H' → Kw w H2 H' := fun kp => k3.trans (Kp.thin ((Kp.same s4).trans kp) nS).kw
      generalize upd H3 SL (.lst []) = H4 at hS4 w4 dk4 kpS ⊢
      refine ⟨_, rfl, big _ (by show (3 : Nat) ≤ 1000; decide), fun t nt => ?_⟩
      have s5 := @Same.new t _ (.tup [.int 1, .int 9, .int 60]) nt
      refine ⟨w, t, _, c3, rfl, w4.same s5, by omega, SqT.of upd_same, by decide, by decide, fun m v c6 H6 hm k6 w6 l6 => ?_⟩
      obtain ⟨n, rfl, hn1, hn60⟩ : ∃ n : Nat, v = V.int (n : Int) ∧ 1 ≤ n ∧ n ≤ 60 := by
        match m, hm with
        | 0, hm => exact ⟨1, (Option.some.inj hm).symm, by decide, by decide⟩
        | 1, hm => exact ⟨9, (Option.some.inj hm).symm, by decide, by decide⟩
        | 2, hm => exact ⟨60, (Option.some.inj hm).symm, by decide, by decide⟩
      have kp6 : Kp [SL, w] H4 H6 := (Kp.same s5).trans (k6.kp (by simp))
      refine ⟨_, rfl, by omega, by omega, for_range (lo := 0) (n := (n : Int).toNat) (fun j σ H7 => ∃ (u4 : Option V) (xs : List V) (ds : List PyData) (c7 : Int), σ = [some (.ref w), u1, u2, u3, u4, some pv, some (.ref SL), none, none, none] ∧ Kp [SL, w] H4 H7 ∧ H7 SL = some (.lst xs) ∧
        DtA (Ot [SL, w]) H7 xs ds ∧ (∀ d ∈ ds, VV 4 k d ∧ Sd 2 (VL 2) d) ∧ ds.length = j ∧ Wl H7 w c7 ∧ c7 ≤ c6 + 105 * (j : Int)) ⟨u4, [], [], c6, rfl, kp6, k6 _ _ wS.symm (s5 _ _ hS4), .nil, (fun d hd => by cases hd), rfl, w6, by omega⟩ ?_ ?_⟩
      · rintro j σ H7 hj ⟨u4, xs, ds, c7, rfl, kp7, hS7, da7, vv7, len, w7, l7⟩
        have lx := da7.length
        refine ⟨_, rfl, .inl ⟨rfl, _, SqL.of hS7⟩, _, rfl, _, rfl, 2, by decide, w, pv, k, c7, rfl, (dk4.kp kp7).nwo (by simp), dp2, cl, nf, w7, by omega, fun y d c8 H8 dy vvy sdy k8 w8 l8 => ?_⟩
        have hS8 := k8 _ _ wS.symm hS7
        have kp8 : Kp [SL, w] H7 H8 := k8.kp (by simp)
        have dy2 : Dt (Ot [SL, w]) H8 y d := dy.move fun a o f e => ⟨fun z => by
          rcases (List.mem_cons.mp z) with z | z
          · have f' : H7 a = none := f
            rw [z, hS7] at f'
            cases f'
          · have f' : H7 a = none := f
            exact w7.some (by rw [← List.mem_singleton.mp z]; exact f'), e⟩
        refine ⟨SL, _, y, rfl, rfl, hS8, small1000 (by omega), ?_⟩
        have kp9 : Kp [SL, w] H8 (upd H8 SL (.lst (xs ++ [y]))) := Kp.put (by simp)
        refine ⟨_, xs ++ [y], ds ++ [d], c8, rfl, kp7.trans (kp8.trans kp9), upd_same, ((da7.kp kp8).kp kp9).append (.cons (dy2.kp kp9) .nil), ?_, by rw [List.length_append, len]; rfl, ?_, by omega⟩
        · intro e he
          rcases List.mem_append.mp he with z | z
          · exact vv7 e z
          · rw [List.mem_singleton.mp z]; exact ⟨vvy, sdy⟩
        · obtain ⟨n', m', z', e', r'⟩ := w8
          exact ⟨n', m', z', by rw [upd_ne wS]; exact e', r'⟩
      · rintro σ H7 ⟨u4, xs, ds, c7, rfl, kp7, hS7, da7, vv7, len, w7, l7⟩
        have lx := da7.length
        have ln : ds.length = n := by omega
        have kw7 := kpS kp7
        have dk7 : Dt (Nw w) H7 pv k.d := (dk4.kp kp7).nwo (by simp)
        have dn7 : DtA (Nw w) H7 xs ds := Dt.nwt da7 (by simp)
        refine ⟨_, rfl, SL, xs, rfl, .inl ⟨SqL.of hS7, fun R nR => ?_⟩⟩
        have s8 := @Same.new R _ (.tup xs) nR
        have dr8 : Dt (Nw w) (upd H7 R (.tup xs)) (.ref R) (.tuple ds) := layD (nwF w7) nR dn7
        have w8 := w7.same s8
        have dk8 := dk7.keep s8
        have kw8 := kw7.trans (Kw.same s8)
        have hR8 : (upd H7 R (.tup xs)) R = some (.tup xs) := upd_same
        generalize upd H7 R (.tup xs) = H8 at dr8 w8 dk8 kw8 hR8 ⊢
        refine ⟨_, rfl, big _ (by show (2 : Nat) ≤ 1000; decide), fun KL nK => ⟨_, _, rfl, ?_⟩⟩
        have s9 := @Same.new KL _ (.tup [.str "list", pv]) nK
        have dK : Dt (Nw w) (upd H8 KL (.tup [.str "list", pv])) (.ref KL) (Kd.lst k).d := layD (nwF w8) nK (.cons (.str _) (.cons dk8 .nil))
        have dr9 := dr8.keep s9
        have w9 := w8.same s9
        have kw9 := kw8.trans (Kw.same s9)
        have hR9 := s9 _ _ hR8
        generalize upd H8 KL (.tup [.str "list", pv]) = H9 at dK dr9 w9 kw9 hR9 ⊢
        have vvr : VV 60 (.lst k) (.tuple ds) := .lst (by omega) fun d hd => (vv7 d hd).1.mono (by decide)
        have dpl : (Kd.lst k).dep ≤ 3 := by show k.dep + 1 ≤ 3; omega
        -- the row, another one, its front
        refine ⟨_, rfl, _, rfl, _, rfl, _, rfl, w, .ref KL, .ref R, .lst k, .tuple ds, 60, c7, rfl, dK, dr9, vvr, by decide, by decide, by omega, cl, nf, w9, by omega, fun y e cA HA de vve kA wA lA => ?_⟩
        have hRA := kA R _ (by intro z; rw [z] at hR9; obtain ⟨_, _, _, e', _⟩ := w9; rw [hR9] at e'; cases e') hR9
        have drA := dr9.kw kA
        have dKA := dK.kw kA
        refine ⟨_, rfl, _, rfl, _, rfl, _, _, rfl, .inr ⟨_, SqT.of hRA, rfl⟩, w, _, cA, rfl, wA, by omega, by omega, by omega, fun r cB HB r0 r1 kB wB lB => ⟨_, rfl, ?_⟩⟩
        obtain ⟨r, rfl⟩ := Int.eq_ofNat_of_zero_le r0
        have rl : r ≤ ds.length := by omega
        have drB := drA.kw kB
        have dKB := dKA.kw kB
        have deB := de.kw kB
        refine takeD (K := K) (i := r) (nwF wB) drB rl fun z HC sC dz => ?_
        have wC := wB.same sC
        have drC := drB.keep sC
        have dKC := dKB.keep sC
        have deC := deB.keep sC
        refine ⟨big _ (by show (3 : Nat) ≤ 1000; decide), fun VL nV => ?_⟩
        have sD := @Same.new VL _ (.lst [.ref R, y, z]) nV
        have kwD : Kw w H2 (upd HC VL (.lst [.ref R, y, z])) := kw9.trans (kA.trans (kB.trans (Kw.same (sC.trans sD))))
        have rowsD : DtA (Nw w) (upd HC VL (.lst [.ref R, y, z])) [.ref R, y, z] [.tuple ds, e, .tuple (ds.take r)] := .cons (drC.keep sD) (.cons (deC.keep sD) (.cons (dz.keep sD) .nil))
        have wD := wC.same sD
        have dKD := dKC.keep sD
        have hVD : (upd HC VL (.lst [.ref R, y, z])) VL = some (.lst [.ref R, y, z]) := upd_same
        have wV : w ≠ VL := wC.ne nV
        generalize upd HC VL (.lst [.ref R, y, z]) = HD at kwD rowsD wD dKD hVD ⊢
        have ck : Ck0 (.lst k) := ⟨cl, nf, by omega, kz5 (by omega)⟩
        have vvz : VV 60 (.lst k) (.tuple (ds.take r)) := .lst (by rw [List.length_take]; omega) fun d hd => (vv7 d (List.mem_of_mem_take hd)).1.mono (by decide)
        have cv : ∀ d, VV 61 (.lst k) d → Cv (.lst k) d := fun d vv => by
          refine ⟨vv.mono (by decide), ?_⟩
          have z1 := vv_sz (M := 61) (by decide) (by decide) (by decide) vv
          have z2 := BZ_mono (M := 61) (by decide) (show (Kd.lst k).dep - 1 ≤ 2 by omega)
          have z3 := bz61
          omega
        refine ⟨_, rfl, _, rfl, Nw w, .ref KL, VL, false, .lst k, _, _, rfl, dKD, ck, hVD, rowsD, ?_, fun HE sE => ⟨_, rfl, ifF rfl ?_⟩⟩
        · intro d hd
          simp only [List.mem_cons, List.not_mem_nil, or_false] at hd
          rcases hd with rfl | rfl | rfl
          · exact cv _ (vvr.mono (by decide))
          · exact cv _ vve
          · exact cv _ (vvz.mono (by decide))
        have wE := wD.same sE
        have hVE := sE _ _ hVD
        refine ⟨_, rfl, _, rfl, _, rfl, _, rfl, VL, _, rfl, SqL.of hVE, fun p np => ?_⟩
        rw [cut1]
        have sF := @Same.new p _ (.lst [.ref R]) np
        have wF := wE.same sF
        have oneF : DtA (Nw w) (upd HE p (.lst [.ref R])) [.ref R] [.tuple ds] := by
          cases rowsD with
          | cons h1 _ => exact .cons ((h1.keep sE).keep sF) .nil
        have rowz : sz (.tuple ds) ≤ 900000 := by
          have h1 := (sd_tup (n := 2) (L := KB.VL 2) (m := 60) (fun d hd => (vv7 d hd).2) (by omega : ds.length ≤ 60)).ln
          have h2 := vl2
          omega
        refine ⟨w, .ref KL, p, .lst k, _, _, cB, rfl, (dKD.keep sE).keep sF, ck, upd_same, (wE.ne np).symm, oneF, by show 1 ≤ 3; decide, ?_, wF, by omega, fun cG HG kG wG lG => ⟨_, rfl, ifF rfl ?_⟩⟩
        · intro d hd
          rw [List.mem_singleton.mp hd]
          exact ⟨vvr.mono (by decide), rowz⟩
        -- a tower
        refine ⟨_, rfl, w, cG, rfl, wG, by omega, fun ta kv2 v1 v2 kk d e2 cH HH hta dkH d1H d2H tw kH wH lH => ?_⟩
        have ckT : Ck0 kk := ⟨tw.cl, tw.nf, by have := tw.dp; omega, by have := tw.kz; omega⟩
        have z1 := tw.z1
        have z2 := tw.z2
        refine ⟨ta, _, rfl, SqT.of hta, rfl, _, _, rfl, _, _, rfl, _, _, rfl, rfl, ?_⟩
        refine ⟨_, rfl, _, rfl, _, rfl, big _ (by show (2 : Nat) ≤ 1000; decide), fun L1 n1 => ?_⟩
        have sI := @Same.new L1 _ (.lst [v1, v2]) n1
        refine ⟨Nw w, kv2, L1, true, kk, [v1, v2], [d, e2], rfl, dkH.keep sI, ckT, upd_same, .cons (d1H.keep sI) (.cons (d2H.keep sI) .nil), ?_, fun HJ sJ => ⟨_, rfl, ifT rfl ?_⟩⟩
        · intro x hx
          rcases List.mem_cons.mp hx with z | z
          · rw [z]; exact ⟨tw.v1.mono (by decide), by omega⟩
          · rw [List.mem_singleton.mp z]; exact ⟨tw.v2.mono (by decide), by omega⟩
        have sIJ := sI.trans sJ
        refine ⟨_, rfl, _, rfl, _, rfl, big _ (by show (1 : Nat) ≤ 1000; decide), fun L2 n2 => ?_⟩
        have sK := @Same.new L2 _ (.lst [v1]) n2
        have wJ := wH.same sIJ
        refine ⟨w, kv2, L2, kk, [v1], [d], cH, rfl, (dkH.keep sIJ).keep sK, ckT, upd_same, (wJ.ne n2).symm, .cons ((d1H.keep sIJ).keep sK) .nil, by show 1 ≤ 3; decide, ?_, wJ.same sK, by omega, fun cL HL kL wL lL => ?_⟩
        · intro x hx
          rw [List.mem_singleton.mp hx]
          exact ⟨tw.v1.mono (by decide), by omega⟩
        exact q HL (k2.trans (kwD.trans ((Kw.same (sE.trans sF)).trans (kG.trans (kH.trans ((Kw.same (sIJ.trans sK)).trans kL))))))
end
end K3
namespace K3
open PySem PySem.Spec PyProof.Rows L2 KB
def spLaw (K : PySem.W.Frag) : Sp := fun vs H Q _ => ∃ (a : Addr) (ns : List Int), vs = [.ref a] ∧ SqL K H a (ns.map V.int) ∧ ∀ H' : Hp, Q (.bl true) H'
section
variable {K : PySem.W.Frag} {mg : Str → Option Value} {base : Heap} {P : Program} {w : World}
abbrev nLaw : List Str := ["_law_script", "_law_turn"]
theorem scLaw : FnScope nLaw ["_law_script"] (defScope (top 42)) := ⟨rfl, rfl, rfl, by decide +kernel, rfl, by decide +kernel, by decide +kernel⟩
theorem all_yes (n : Nat) : (List.replicate n true).all id = true := by
  rw [List.all_eq_true]
  intro b hb
  exact (List.mem_replicate.mp hb).2
theorem few (n : Int) : (if (if (3 : Int) < n then (3 : Int) else n) > 2 then (if (3 : Int) < n then (3 : Int) else n) else 2) = 2 ∨ (if (if (3 : Int) < n then (3 : Int) else n) > 2 then (if (3 : Int) < n then (3 : Int) else n) else 2) = 3 := by
  by_cases h : (3 : Int) < n
  · right
    rw [if_pos h]
    rfl
  · rw [if_neg h]
    by_cases h2 : n > 2
    · rw [if_pos h2]
      omega
    · rw [if_neg h2]
      exact .inl rfl
theorem ok_law {f : Addr} {fd : FuncData} (F : FnP K "law" (top 42) f fd) (T : Bl K mg) (hW : Has P w K mg base "_law_well" ["_law_script", "_law_turn"] 1 (spWell K)) (hO : HasG P w K mg base "_law_right" ["_law_well_here"] 103 spOne) : FnG P w K mg base 104 f fd ["_law_script"] (spLaw K) := by
  obtain ⟨fW, fdW, kW, gW, bW, GW⟩ := hW
  obtain ⟨fO, fdO, kO, gO, bO, GO⟩ := hO
  refine okG F scLaw (fun vs H Q h => ?_) (fun cdv A outer s H vs Q hgd hr h => ?_)
  · obtain ⟨a, ns, rfl, _⟩ := h
    rfl
  · obtain ⟨a, ns, rfl, hS, q⟩ := h
    have sc := scLaw
    have hrW : Room 1 _ := hr.mono (by decide)
    have hrO : Room 103 _ := hr
    refine ⟨_, (pss_one (ps_ret (pe_callB (cr_all rfl) (by rfl) T.all (by decide +kernel) (pa_cons (pe_lc (own := [("_law_turn", 1)]) (g := gName 1) (tt := tYes) (by rfl) sc.nd (pi_range1 rfl T.range (pa_cons (pe_callB (call_max2 rfl) (by rfl) T.max (by decide +kernel) (pa_cons pe_int (pa_cons (pe_callB (call_min2 rfl) (by rfl) T.min (by decide +kernel) (pa_cons (pe_callB call_len (by rfl) T.len (by decide +kernel) (pa_cons (pv 0) pa_nil)) (pa_cons pe_int pa_nil))) pa_nil))) pa_nil)) (blkOk_by (own := [("_law_turn", 1)]) (N := nLaw) (sc := (defScope (top 42))) (by decide +kernel)) (fun _ _ _ _ _ => (pg_name (i := 1) sc.nd rfl (Or.inl rfl))) (fun _ _ _ _ _ => pts_nil) (fun _ _ _ _ _ => (pe_callG GO hgd hrO rfl gO kO bO .nil (pa_cons (pe_call GW hrW rfl gW kW bW .nil pass0 (pa_cons (pv 0) (pa_cons (pv 1) pa_nil))) pa_nil)))) pa_nil)))), ?_⟩
    refine ⟨_, rfl, _, _, rfl, .inl ⟨_, hS, rfl⟩, _, _, rfl, _, _, rfl, ?_⟩
    have hm := few ((List.map V.int ns).length : Int)
    generalize (if (if (3 : Int) < ((List.map V.int ns).length : Int) then (3 : Int) else ((List.map V.int ns).length : Int)) > 2 then (if (3 : Int) < ((List.map V.int ns).length : Int) then (3 : Int) else ((List.map V.int ns).length : Int)) else 2) = m at hm ⊢
    refine ⟨m, rfl, by omega, by omega, fun D nD => lc_range (lo := 0) (n := m.toNat) (fun i H2 => Same H H2 ∧ H2 D = some (.lst ((List.replicate i true).map V.bl))) ⟨Same.new nD, upd_same⟩ ?_ ?_⟩
    · rintro i H2 hi ⟨sm, hD⟩
      have i3 : i < 3 := by omega
      refine ⟨rfl, ?_⟩
      refine iteT (B := Same H H2 ∧ H2 D = some (.lst ((List.replicate (i + 1) true).map V.bl))) ?_
      refine ⟨_, rfl, _, rfl, a, ns, _, rfl, sm.seq hS, by omega, by omega, fun w1 H3 nw s3 w3 => ?_⟩
      refine ⟨w1, 0, rfl, w3, by decide, fun H4 k4 => ?_⟩
      have nwD : D ≠ w1 := fun z => by
        rw [← z, hD] at nw
        cases nw
      refine ⟨_, k4 _ _ nwD (s3 _ _ hD), small1000 (by rw [List.length_map, List.length_replicate]; omega), fun b o e => ?_, ?_⟩
      · rw [upd_ne (ne_of_none e nD)]
        have e2 := sm b o e
        exact k4 b o (ne_of_none e2 nw) (s3 b o e2)
      · rw [upd_same, List.replicate_succ', List.map_append]
        rfl
    · rintro H2 ⟨sm, hD⟩
      refine ⟨D, _, rfl, SqL.of hD, ?_⟩
      rw [all_yes]
      exact q H2
end
end K3
namespace K3
open PySem PySem.Spec PyProof.Rows L2 KB
def lawL : List (Str × Nat) := [("_law_well", 25), ("_law_draw", 26), ("_law_pick", 27), ("_law_same", 28), ("_law_odd", 29), ("_law_kind", 30), ("_law_number", 31), ("_law_bent", 32), ("_law_spoilt", 33), ("_law_value", 34), ("_law_near", 35),
  ("_law_is_value", 36), ("_law_order", 37), ("_law_tower", 38), ("_law_are_ordered", 39), ("_law_are_judged", 40), ("_law_right", 41), ("law", 42)]
def proL : List (Str × Nat) := [("is_data_kind", 8), ("is_closed_kind", 9), ("is_text_of", 10), ("_is_kind_without", 11), ("_parts_with_levels", 12), ("is_value", 16), ("order", 17), ("is_number", 18), ("_check_kind", 19), ("_stands_under", 20), ("_parts_below", 23)]
def hasL : List (Str × Nat) := [("has_form_kinds", 13), ("has_form_values", 21)]
def dG (x : Str) (i : Nat) : He.DefD := ⟨(x, none), x, x, defArgs (top i), defBody (top i), defScope (top i), [], []⟩
def dH (x : Str) (i : Nat) : He.DefD := ⟨(x, none), "_has_form", "_has_form", defArgs (top i), defBody (top i), defScope (top i), [], []⟩
def fn : List He.DefD := ((lawL ++ proL).map fun p => dG p.1 p.2) ++ hasL.map fun p => dH p.1 p.2
def blL : List Str := ["int", "abs", "divmod", "len", "repr", "isinstance", "range", "tuple", "zip", "min", "max", "all", "list", "str", "bool"]
def fa : List He.Fa := ((lawL ++ proL ++ hasL).map fun p => .glo p.1) ++ [.glo "WORDS_BY_LENGTH", .glo "VARIABLES", .int "DEEPEST" 100] ++ blL.map .free
/-! ### the written dict -/
def wA (K : PySem.W.Frag) : Addr := He.ga K "WORDS_BY_LENGTH"
def dAt (K : PySem.W.Frag) (i : Nat) : Addr := match K.lookup (wA K) with
  | some ⟨_, _, .dict es _, _⟩ => (match es.toList[i]? with
    | some e => (match e.val with
      | .ref a => a
      | _ => 0)
    | none => 0)
  | _ => 0
def entB (K : PySem.W.Frag) (e : DictEntry) (k : Int) (i : Nat) : Bool := decide (e.hash = hashInt k) && (keyIs (.inl k) e.key && He.relB (.ref (dAt K i)) e.val)
def dictB (K : PySem.W.Frag) : Bool := match K.lookup (wA K) with
  | some ⟨.type c, none, .dict es _, sl⟩ => decide (c = "dict") && (decide (sl.size = 0) && (match es.toList with
    | [e1, e2, e3] => entB K e1 1 0 && (entB K e2 2 1 && entB K e3 3 2)
    | _ => false))
  | _ => false
def tupAt (K : PySem.W.Frag) (a : Addr) (vs : List V) : Bool := match K.lookup a with
  | some ⟨.type c, _, .seq its _, _⟩ => decide (c = "tuple") && (decide (its.size ≤ sizeLine) && He.relAll vs its.toList)
  | _ => false
def exB (K : PySem.W.Frag) : Bool := (K.lookup sysModules).isSome && (!(wA K == sysModules) && (dictB K && (tupAt K (dAt K 0) ((["unit", "num"] : List Str).map V.str) && (tupAt K (dAt K 1) ((["var", "list"] : List Str).map V.str) && tupAt K (dAt K 2) ((["pair", "either", "fun"] : List Str).map V.str)))))
theorem tupAt_ok {K : PySem.W.Frag} {a : Addr} {vs : List V} (h : tupAt K a vs = true) (H : Hp) : SqT K H a vs := by
  unfold tupAt at h
  cases q : K.lookup a with
  | none =>
    rw [q] at h
    cases h
  | some o =>
    obtain ⟨oc, od, dt, osl⟩ := o
    rw [q] at h
    cases oc with
    | type c =>
      cases dt with
      | seq its n =>
        obtain ⟨h1, h2⟩ := He.ba (show (decide (c = "tuple") && (decide (its.size ≤ sizeLine) && He.relAll vs its.toList)) = true from h)
        obtain ⟨h3, h4⟩ := He.ba h2
        exact .inr ⟨_, its, n, q, congrArg Value.type (of_decide_eq_true h1), rfl, of_decide_eq_true h3, He.relAll_ok h4⟩
      | _ => cases h
    | _ => cases dt <;> cases h
theorem entB_ok {P : Program} {w : World} {K : PySem.W.Frag} {e : DictEntry} {k : Int} {i : Nat} (h : entB K e k i = true) : e.hash = (mixKind P w).hash (.inl k) ∧ (mixKind P w).is (.inl k) e.key = true ∧ e.val = .ref (dAt K i) := by
  obtain ⟨h1, h2⟩ := He.ba h
  obtain ⟨h3, h4⟩ := He.ba h2
  exact ⟨of_decide_eq_true h1, h3, He.relB_ok h4⟩
theorem dictB_ok {P : Program} {w : World} {K : PySem.W.Frag} (hs : (wA K == sysModules) = false) (h : dictB K = true) : KI P w K (wA K) [(.inl 1, .ref (dAt K 0)), (.inl 2, .ref (dAt K 1)), (.inl 3, .ref (dAt K 2))] := by
  unfold dictB at h
  cases q : K.lookup (wA K) with
  | none =>
    rw [q] at h
    cases h
  | some o =>
    obtain ⟨oc, od, dt, osl⟩ := o
    rw [q] at h
    cases oc with
    | type c =>
      cases od with
      | some d => (cases dt <;> cases h)
      | none =>
        cases dt with
        | dict es n =>
          obtain ⟨h1, h2⟩ := He.ba (show (decide (c = "dict") && (decide (osl.size = 0) && (match es.toList with
            | [e1, e2, e3] => entB K e1 1 0 && (entB K e2 2 1 && entB K e3 3 2)
            | _ => false))) = true from h)
          obtain ⟨h3, h4⟩ := He.ba h2
          have ec : c = "dict" := of_decide_eq_true h1
          have esl : osl = #[] := Array.eq_empty_of_size_eq_zero (of_decide_eq_true h3)
          subst ec esl
          obtain ⟨e1, e2, e3, el⟩ : ∃ e1 e2 e3, es.toList = [e1, e2, e3] := by
            rcases el : es.toList with _ | ⟨e1, _ | ⟨e2, _ | ⟨e3, _ | ⟨e4, r⟩⟩⟩⟩
            · rw [el] at h4; cases h4
            · rw [el] at h4; cases h4
            · rw [el] at h4; cases h4
            · exact ⟨e1, e2, e3, rfl⟩
            · rw [el] at h4; cases h4
          rw [el] at h4
          obtain ⟨h5, h6⟩ := He.ba (show (entB K e1 1 0 && (entB K e2 2 1 && entB K e3 3 2)) = true from h4)
          obtain ⟨h7, h8⟩ := He.ba h6
          obtain ⟨a1, a2, a3⟩ := entB_ok (P := P) (w := w) h5
          obtain ⟨b1, b2, b3⟩ := entB_ok (P := P) (w := w) h7
          obtain ⟨c1, c2, c3⟩ := entB_ok (P := P) (w := w) h8
          refine ⟨hs, [(.inl 1, .ref (dAt K 0)), (.inl 2, .ref (dAt K 1)), (.inl 3, .ref (dAt K 2))], .cons ⟨rfl, rfl⟩ (.cons ⟨rfl, rfl⟩ (.cons ⟨rfl, rfl⟩ .nil)), fun hp hK => ⟨_, es, n, hK _ _ q, ⟨rfl, rfl, rfl⟩, rfl, fun e he => ?_, ?_, by show ([Sum.inl 1, Sum.inl 2, Sum.inl 3] : List L2.Key).Nodup; decide⟩⟩
          · have m : e ∈ es.toList := Array.mem_toList_iff.mpr he
            rw [el] at m
            simp only [List.mem_cons, List.not_mem_nil, or_false] at m
            rcases m with rfl | rfl | rfl
            · exact ⟨_, a2, a1⟩
            · exact ⟨_, b2, b1⟩
            · exact ⟨_, c2, c1⟩
          · rw [el]
            exact .cons a2 a3 (.cons b2 b3 (.cons c2 c3 .nil))
        | _ => cases h
    | _ => (cases od <;> cases dt <;> cases h)
/-! ### the Hook: sys.modules stands too, and the written dict -/
def frS (g : Addr → Option Obj) : PySem.W.Frag := He.frG g (sysModules :: He.asD g 5)
def obsS (K : PySem.W.Frag) : He.AlD × Bool := (He.obsD fa fn K, exB K)
def saysS (K : PySem.W.Frag) : Prop := obsS K = (He.valD fn, true)
def hk : PySem.W.Hook where
  α := He.AlD × Bool
  obs := fun s => obsS (frS s.heap.get?)
  val := fun _ => (He.valD fn, true)
  says := fun _ h => ∃ K : PySem.W.Frag, K.In h ∧ saysS K
  of := fun _ _ e => ⟨_, He.frG_in, e⟩
  keeps := fun _ _ _ ⟨K, hK, c⟩ kp => ⟨K, PySem.W.Frag.In.keeps hK kp, c⟩
abbrev R : PySem.W.OpenRow := PySem.W.OpenLaw.row PySem.Challenge.rw_bykindalone_k03_whole_values_and_their_o
def ob (s : PySem.W.SharedT) : hk.α := obsS (frS (HandSHeadRun.getT s))
theorem ob_eq (s : PySem.W.SharedT) : ob s = hk.obs s.abs := by
  have e : HandSHeadRun.getT s = s.abs.heap.get? := funext (HandSHeadRun.getT_eq s)
  unfold ob
  rw [e] <;> rfl
def loose : List Str := (lawL.take 17).map (·.1) ++ proL.map (·.1) ++ hasL.map (·.1) ++ (["_has_form", "KindError", "InvalidKind", "InvalidValue", "VARIABLES", "WORDS_BY_LENGTH", "DEEPEST", "__name__"] : List Str)
theorem run_by (w : World) : ∀ b : Bool, HandSHeadRun.RunEq R (PySem.W.view R.prog [42]) hk ob 30000 loose (w.withFollow "special-get-raises" b)
  | true => by
    intro os
    kernel_rfl
  | false => by
    intro os
    kernel_rfl
theorem run (w : World) : HandSHeadRun.RunEq R (PySem.W.view R.prog [42]) hk ob 30000 loose w := by
  have := run_by w (w.params.followText "special-get-raises")
  (rwa [World.withFollow_self] at this)
end K3
namespace K3
open PySem PySem.Spec PyProof.Rows L2 KB
section
variable {P : Program} {w : World} {K : PySem.W.Frag} {h : Heap} {mg : Str → Option Value} {base : Heap}
structure Top (P : Program) (w : World) (K : PySem.W.Frag) (mg : Str → Option Value) : Prop where
  bl : Bl K mg
  pf : ∃ tk, Pf P w K mg (wA K) (dAt K 0) (dAt K 1) (dAt K 2) (He.ga K "VARIABLES") tk
  fns : ∀ p ∈ lawL ++ proL ++ hasL, mg p.1 = some (.ref (He.ga K p.1))
  def_ : ∀ p ∈ lawL ++ proL, ∃ fd, FnP K p.1 (top p.2) (He.ga K p.1) fd
  has_ : ∀ p ∈ hasL, ∃ fd, FnP K "_has_form" (top p.2) (He.ga K p.1) fd
theorem top_of (X : K.In h) (G : h.Ns mainGlobals mg) (c : saysS K) : Top P w K mg := by
  have c1 : He.SaysD fa fn K := congrArg (fun z : He.AlD × Bool => z.1) c
  have c2 : exB K = true := congrArg (fun z : He.AlD × Bool => z.2) c
  have fact : ∀ f : He.Fa, f ∈ fa → f.ok K = true := fun f hf => by
    obtain ⟨i, hi⟩ := List.getElem?_of_mem hf
    exact c1.fact i hi
  have free : ∀ x, x ∈ blL → mg x = none := fun x hx => He.free_ok X G (fact (.free x) (List.mem_append_right _ (List.mem_map.mpr ⟨x, hx, rfl⟩)))
  have bl : ∀ x, blL.contains x = true → mg x = none := fun x hx => free x (List.contains_iff_mem.mp hx)
  have glo : ∀ x, He.Fa.glo x ∈ fa → mg x = some (.ref (He.ga K x)) := fun x hx => He.glo_ok X G (fact _ hx)
  obtain ⟨e1, e2⟩ := He.ba (show ((K.lookup sysModules).isSome && (!(wA K == sysModules) && (dictB K && (tupAt K (dAt K 0) ((["unit", "num"] : List Str).map V.str) && (tupAt K (dAt K 1) ((["var", "list"] : List Str).map V.str) && tupAt K (dAt K 2) ((["pair", "either", "fun"] : List Str).map V.str)))))) = true from c2)
  obtain ⟨e3, e4⟩ := He.ba e2
  obtain ⟨e5, e6⟩ := He.ba e4
  obtain ⟨e7, e8⟩ := He.ba e6
  obtain ⟨e9, e10⟩ := He.ba e8
  have low : (wA K == sysModules) = false := by simpa using e3
  obtain ⟨tk, hD⟩ := He.int_ok X G (fact (.int "DEEPEST" 100) (List.mem_append_left _ (List.mem_append_right _ (by simp))))
  have gW : mg "WORDS_BY_LENGTH" = some (.ref (wA K)) := glo "WORDS_BY_LENGTH" (List.mem_append_left _ (List.mem_append_right _ (by simp)))
  have gV : mg "VARIABLES" = some (.ref (He.ga K "VARIABLES")) := glo "VARIABLES" (List.mem_append_left _ (List.mem_append_right _ (by simp)))
  refine ⟨⟨Option.isSome_iff_exists.mp e1, bl _ (by decide +kernel), bl _ (by decide +kernel), bl _ (by decide +kernel), bl _ (by decide +kernel), bl _ (by decide +kernel), bl _ (by decide +kernel), bl _ (by decide +kernel), bl _ (by decide +kernel), bl _ (by decide +kernel), bl _ (by decide +kernel), bl _ (by decide +kernel), bl _ (by decide +kernel), bl _ (by decide +kernel), bl _ (by decide +kernel), bl _ (by decide +kernel)⟩,
    ⟨tk, ⟨gW, dictB_ok low e5, fun H => tupAt_ok e7 H, fun H => tupAt_ok e9 H, fun H => tupAt_ok e10 H, gV, hD⟩⟩, fun p hp => ?_, fun p hp => ?_, fun p hp => ?_⟩
  · exact glo p.1 (List.mem_append_left _ (List.mem_append_left _ (List.mem_map.mpr ⟨p, hp, rfl⟩)))
  · obtain ⟨i, hi⟩ := List.getElem?_of_mem (show dG p.1 p.2 ∈ fn from List.mem_append_left _ (List.mem_map.mpr ⟨p, hp, rfl⟩))
    obtain ⟨fd, F⟩ := c1.def_ i hi
    exact ⟨fd, F⟩
  · obtain ⟨i, hi⟩ := List.getElem?_of_mem (show dH p.1 p.2 ∈ fn from List.mem_append_right _ (List.mem_map.mpr ⟨p, hp, rfl⟩))
    obtain ⟨fd, F⟩ := c1.def_ i hi
    exact ⟨fd, F⟩
theorem Top.fn_ (T : Top P w K mg) (x : Str) (i : Nat) (h : (lawL ++ proL).contains (x, i) = true) : ∃ fd, FnP K x (top i) (He.ga K x) fd ∧ mg x = some (.ref (He.ga K x)) := by
  have m := List.contains_iff_mem.mp h
  obtain ⟨fd, F⟩ := T.def_ _ m
  exact ⟨fd, F, T.fns _ (List.mem_append_left _ m)⟩
theorem Top.hf_ (T : Top P w K mg) (x : Str) (i : Nat) (h : hasL.contains (x, i) = true) : ∃ fd, FnP K "_has_form" (top i) (He.ga K x) fd ∧ mg x = some (.ref (He.ga K x)) := by
  have m := List.contains_iff_mem.mp h
  obtain ⟨fd, F⟩ := T.has_ _ m
  exact ⟨fd, F, T.fns _ (List.mem_append_right _ m)⟩
theorem law_all (T : Top P w K mg) : ∃ fd : FuncData, (∀ (s : Shared) (v : Value), BindsTo s fd ⟨[v], []⟩ [("_law_script", v)]) ∧ ∀ base : Heap, FnG P w K mg base 104 (He.ga K "law") fd ["_law_script"] (spLaw K) := by
  have B := T.bl
  obtain ⟨tk, pf⟩ := T.pf
  obtain ⟨fdW, FW, gW⟩ := T.fn_ "_law_well" 25 (by decide +kernel)
  obtain ⟨fdD, FD, gD⟩ := T.fn_ "_law_draw" 26 (by decide +kernel)
  obtain ⟨fdP, FP, gP⟩ := T.fn_ "_law_pick" 27 (by decide +kernel)
  obtain ⟨fdS, FS, gS⟩ := T.fn_ "_law_same" 28 (by decide +kernel)
  obtain ⟨fdO, FO, gO⟩ := T.fn_ "_law_odd" 29 (by decide +kernel)
  obtain ⟨fdK, FK, gK⟩ := T.fn_ "_law_kind" 30 (by decide +kernel)
  obtain ⟨fdN, FN, gN⟩ := T.fn_ "_law_number" 31 (by decide +kernel)
  obtain ⟨fdB, FB, gB⟩ := T.fn_ "_law_bent" 32 (by decide +kernel)
  obtain ⟨fdSp, FSp, gSp⟩ := T.fn_ "_law_spoilt" 33 (by decide +kernel)
  obtain ⟨fdV, FV, gV⟩ := T.fn_ "_law_value" 34 (by decide +kernel)
  obtain ⟨fdNe, FNe, gNe⟩ := T.fn_ "_law_near" 35 (by decide +kernel)
  obtain ⟨fdIs, FIs, gIs⟩ := T.fn_ "_law_is_value" 36 (by decide +kernel)
  obtain ⟨fdLo, FLo, gLo⟩ := T.fn_ "_law_order" 37 (by decide +kernel)
  obtain ⟨fdT, FT, gT⟩ := T.fn_ "_law_tower" 38 (by decide +kernel)
  obtain ⟨fdAo, FAo, gAo⟩ := T.fn_ "_law_are_ordered" 39 (by decide +kernel)
  obtain ⟨fdAj, FAj, gAj⟩ := T.fn_ "_law_are_judged" 40 (by decide +kernel)
  obtain ⟨fd1, F1, g1⟩ := T.fn_ "_law_right" 41 (by decide +kernel)
  obtain ⟨fd, F, g⟩ := T.fn_ "law" 42 (by decide +kernel)
  obtain ⟨fdDk, FDk, gDk⟩ := T.fn_ "is_data_kind" 8 (by decide +kernel)
  obtain ⟨fdCk, FCk, gCk⟩ := T.fn_ "is_closed_kind" 9 (by decide +kernel)
  obtain ⟨fdX, FX, gX⟩ := T.fn_ "is_text_of" 10 (by decide +kernel)
  obtain ⟨fdKw, FKw, gKw⟩ := T.fn_ "_is_kind_without" 11 (by decide +kernel)
  obtain ⟨fdPl, FPl, gPl⟩ := T.fn_ "_parts_with_levels" 12 (by decide +kernel)
  obtain ⟨fdIv, FIv, gIv⟩ := T.fn_ "is_value" 16 (by decide +kernel)
  obtain ⟨fdOr, FOr, gOr⟩ := T.fn_ "order" 17 (by decide +kernel)
  obtain ⟨fdNb, FNb, gNb⟩ := T.fn_ "is_number" 18 (by decide +kernel)
  obtain ⟨fdCh, FCh, gCh⟩ := T.fn_ "_check_kind" 19 (by decide +kernel)
  obtain ⟨fdSu, FSu, gSu⟩ := T.fn_ "_stands_under" 20 (by decide +kernel)
  obtain ⟨fdPb, FPb, gPb⟩ := T.fn_ "_parts_below" 23 (by decide +kernel)
  obtain ⟨fdHk, FHk, gHk⟩ := T.hf_ "has_form_kinds" 13 (by decide +kernel)
  obtain ⟨fdHv, FHv, gHv⟩ := T.hf_ "has_form_values" 21 (by decide +kernel)
  have bW : Binds K fdW ["_law_script", "_law_turn"] [] := FW.bindsN fun _ _ _ _ _ _ us hl => match us, hl with | [_, _], _ => rfl
  have bD : Binds K fdD ["_law_well_here", "_law_many"] [] := FD.bindsN fun _ _ _ _ _ _ us hl => match us, hl with | [_, _], _ => rfl
  have bP : Binds K fdP ["_law_well_here", "_law_some"] [] := FP.bindsN fun _ _ _ _ _ _ us hl => match us, hl with | [_, _], _ => rfl
  have bS : Binds K fdS nSame [] := FS.bindsN fun _ _ _ _ _ _ us hl => match us, hl with | [_, _], _ => rfl
  have bO : Binds K fdO ["_law_well_here"] [] := FO.bindsN fun _ _ _ _ _ _ us hl => match us, hl with | [_], _ => rfl
  have bK : Binds K fdK ["_law_well_here", "_law_deep", "_law_which"] [] := FK.bindsN fun _ _ _ _ _ _ us hl => match us, hl with | [_, _, _], _ => rfl
  have bN : Binds K fdN ["_law_well_here"] [] := FN.bindsN fun _ _ _ _ _ _ us hl => match us, hl with | [_], _ => rfl
  have bB : Binds K fdB ["_law_well_here", "_law_thing"] [] := FB.bindsN fun _ _ _ _ _ _ us hl => match us, hl with | [_, _], _ => rfl
  have bSp : Binds K fdSp ["_law_well_here", "_law_thing"] [] := FSp.bindsN fun _ _ _ _ _ _ us hl => match us, hl with | [_, _], _ => rfl
  have bV : Binds K fdV ["_law_well_here", "_law_kind_here"] [] := FV.bindsN fun _ _ _ _ _ _ us hl => match us, hl with | [_, _], _ => rfl
  have bNe : Binds K fdNe ["_law_well_here", "_law_kind_here", "_law_value_here"] [] := FNe.bindsN fun _ _ _ _ _ _ us hl => match us, hl with | [_, _, _], _ => rfl
  have bIs : Binds K fdIs ["_law_kind_here", "_law_thing"] [] := FIs.bindsN fun _ _ _ _ _ _ us hl => match us, hl with | [_, _], _ => rfl
  have bLo : Binds K fdLo ["_law_kind_here", "_law_one", "_law_two"] [] := FLo.bindsN fun _ _ _ _ _ _ us hl => match us, hl with | [_, _, _], _ => rfl
  have bT : Binds K fdT ["_law_well_here"] [] := FT.bindsN fun _ _ _ _ _ _ us hl => match us, hl with | [_], _ => rfl
  have bAo : Binds K fdAo ["_law_kind_here", "_law_values", "_law_by_name"] [] := FAo.bindsN fun _ _ _ _ _ _ us hl => match us, hl with | [_, _, _], _ => rfl
  have bAj : Binds K fdAj ["_law_well_here", "_law_kind_here", "_law_values"] [] := FAj.bindsN fun _ _ _ _ _ _ us hl => match us, hl with | [_, _, _], _ => rfl
  have b1 : Binds K fd1 ["_law_well_here"] [] := F1.bindsN fun _ _ _ _ _ _ us hl => match us, hl with | [_], _ => rfl
  have bDk : Binds K fdDk ["value"] [] := FDk.bindsN fun _ _ _ _ _ _ us hl => match us, hl with | [_], _ => rfl
  have bCk : Binds K fdCk ["value"] [] := FCk.bindsN fun _ _ _ _ _ _ us hl => match us, hl with | [_], _ => rfl
  have bX : Binds K fdX ["value", "texts"] [] := FX.bindsN fun _ _ _ _ _ _ us hl => match us, hl with | [_, _], _ => rfl
  have bKw : Binds K fdKw ["value", "word"] [] := FKw.bindsN fun _ _ _ _ _ _ us hl => match us, hl with | [_, _], _ => rfl
  have bPl : Binds K fdPl ["value"] [] := FPl.bindsN fun _ _ _ _ _ _ us hl => match us, hl with | [_], _ => rfl
  have bIv : Binds K fdIv ["kind", "value"] [] := FIv.bindsN fun _ _ _ _ _ _ us hl => match us, hl with | [_, _], _ => rfl
  have bOr : Binds K fdOr ["kind", "one", "two"] [] := FOr.bindsN fun _ _ _ _ _ _ us hl => match us, hl with | [_, _, _], _ => rfl
  have bNb : Binds K fdNb ["value"] [] := FNb.bindsN fun _ _ _ _ _ _ us hl => match us, hl with | [_], _ => rfl
  have bCh : Binds K fdCh ["kind"] [] := FCh.bindsN fun _ _ _ _ _ _ us hl => match us, hl with | [_], _ => rfl
  have bSu : Binds K fdSu ["kind", "value"] [] := FSu.bindsN fun _ _ _ _ _ _ us hl => match us, hl with | [_, _], _ => rfl
  have bPb : Binds K fdPb ["kind", "value"] [] := FPb.bindsN fun _ _ _ _ _ _ us hl => match us, hl with | [_, _], _ => rfl
  have bHk : Binds K fdHk ["value"] [] := FHk.bindsN fun _ _ _ _ _ _ us hl => match us, hl with | [_], _ => rfl
  have bHv : Binds K fdHv ["kind", "value"] [] := FHv.bindsN fun _ _ _ _ _ _ us hl => match us, hl with | [_, _], _ => rfl
  have b := FunD.bindsA (ps := ["_law_script"]) F fun _ _ _ _ _ _ us hl => match us, hl with | [_], _ => rfl
  refine ⟨fd, fun s v => b s [v] rfl, fun base => ?_⟩
  -- the law's own
  have hD : Has P w K mg base "_law_draw" ["_law_well_here", "_law_many"] 1 spDraw := ⟨_, fdD, FD.kp, gD, bD, ok_draw FD B⟩
  have GP : FnOk P w K mg base CX0 2 (He.ga K "_law_pick") fdP ["_law_well_here", "_law_some"] (spPick K) := ok_pick FP B FD gD bD
  have hP : Has P w K mg base "_law_pick" ["_law_well_here", "_law_some"] 2 (spPick K) := ⟨_, fdP, FP.kp, gP, bP, GP⟩
  have hO : Has P w K mg base "_law_odd" ["_law_well_here"] 3 (spOdd oddL) := ⟨_, fdO, FO.kp, gO, bO, ok_odd FO FP gP bP GP⟩
  have hK : Has P w K mg base "_law_kind" ["_law_well_here", "_law_deep", "_law_which"] 9 (fun vs H Q E => ∃ n, n ≤ 5 ∧ spKind n vs H Q E) :=
    ⟨_, fdK, FK.kp, gK, bK, fnok_ex fun n hn => (ok_kind FK B FD gD bD FP gP bP gK bK n).mono (by omega)⟩
  have GN : FnOk P w K mg base CX0 3 (He.ga K "_law_number") fdN ["_law_well_here"] spNum := ok_num FN B FD gD bD FP gP bP
  have hN : Has P w K mg base "_law_number" ["_law_well_here"] 3 spNum := ⟨_, fdN, FN.kp, gN, bN, GN⟩
  have GV : ∀ n : Nat, FnOk P w K mg base CX0 (3 + n + 1) (He.ga K "_law_value") fdV ["_law_well_here", "_law_kind_here"] (spVal n) := ok_val FV B FD gD bD FN gN bN GN gV bV
  have hV : Has P w K mg base "_law_value" ["_law_well_here", "_law_kind_here"] 9 (fun vs H Q E => ∃ n, n ≤ 5 ∧ spVal n vs H Q E) := ⟨_, fdV, FV.kp, gV, bV, fnok_ex fun n hn => (GV n).mono (by omega)⟩
  have hNe : Has P w K mg base "_law_near" ["_law_well_here", "_law_kind_here", "_law_value_here"] 10 (spNear 5) := ⟨_, fdNe, FNe.kp, gNe, bNe, ok_near FNe B FD gD bD FP gP bP FV gV bV GV gNe bNe 5⟩
  have hIs : Has P w K mg base "_law_is_value" ["_law_kind_here", "_law_thing"] 101 (spIsV 100) := ⟨_, fdIs, FIs.kp, gIs, bIs, ok_isv FIs B gIs bIs 100⟩
  have hLo : Has P w K mg base "_law_order" ["_law_kind_here", "_law_one", "_law_two"] 101 (spOrd 100) := ⟨_, fdLo, FLo.kp, gLo, bLo, ok_ord FLo B gLo bLo 100⟩
  have hB : Has P w K mg base "_law_bent" ["_law_well_here", "_law_thing"] 4 spBent := ⟨_, fdB, FB.kp, gB, bB, ok_bent FB B hD hP hO⟩
  have hSp : Has P w K mg base "_law_spoilt" ["_law_well_here", "_law_thing"] 5 spSpo := ⟨_, fdSp, FSp.kp, gSp, bSp, ok_spo FSp B hD hB⟩
  have hT : Has P w K mg base "_law_tower" ["_law_well_here"] 4 spTow := ⟨_, fdT, FT.kp, gT, bT, ok_tow FT B hD hP hN⟩
  have hS : HasG P w K mg base "_law_same" nSame 1 spSame := ⟨_, fdS, FS.kp, gS, bS, ok_same FS B⟩
  -- the program
  have hX : Has P w K mg base "is_text_of" ["value", "texts"] 1 (spTxt K) := ⟨_, fdX, FX.kp, gX, bX, ok_txt FX B⟩
  have hHk : Has P w K mg base "has_form_kinds" ["value"] 2 spHfK := ⟨_, fdHk, FHk.kp, gHk, bHk, ok_hfk FHk B pf hX⟩
  have hPl : Has P w K mg base "_parts_with_levels" ["value"] 3 spPwl := ⟨_, fdPl, FPl.kp, gPl, bPl, ok_pwl FPl pf hHk⟩
  have hKw : Has P w K mg base "_is_kind_without" ["value", "word"] 4 spKw := ⟨_, fdKw, FKw.kp, gKw, bKw, ok_kw FKw B hPl⟩
  have hDk : Has P w K mg base "is_data_kind" ["value"] 5 spDk := ⟨_, fdDk, FDk.kp, gDk, bDk, ok_dk FDk hKw⟩
  have hCk : Has P w K mg base "is_closed_kind" ["value"] 5 spDk := ⟨_, fdCk, FCk.kp, gCk, bCk, ok_ck8 FCk hKw⟩
  have hCh : Has P w K mg base "_check_kind" ["kind"] 6 spCk := ⟨_, fdCh, FCh.kp, gCh, bCh, ok_ck FCh hDk hCk⟩
  have hNb : Has P w K mg base "is_number" ["value"] 1 spNb := ⟨_, fdNb, FNb.kp, gNb, bNb, ok_nb FNb B⟩
  have hHv : Has P w K mg base "has_form_values" ["kind", "value"] 2 spHv := ⟨_, fdHv, FHv.kp, gHv, bHv, ok_hv FHv B hNb hX⟩
  have hPb : Has P w K mg base "_parts_below" ["kind", "value"] 1 spPb := ⟨_, fdPb, FPb.kp, gPb, bPb, ok_pb FPb⟩
  have hSu : Has P w K mg base "_stands_under" ["kind", "value"] 3 spSu := ⟨_, fdSu, FSu.kp, gSu, bSu, ok_su FSu hHv hPb⟩
  have GIv : FnOk P w K mg base CX0 7 (He.ga K "is_value") fdIv ["kind", "value"] spIv := ok_iv FIv hCh hSu
  have GOr : FnOk P w K mg base CX0 7 (He.ga K "order") fdOr ["kind", "one", "two"] spOr := ok_or FOr B hCh hSu
  have hOr : Has P w K mg base "order" ["kind", "one", "two"] 7 spOr := ⟨_, fdOr, FOr.kp, gOr, bOr, GOr⟩
  -- the worlds
  have hAo : HasG P w K mg base "_law_are_ordered" ["_law_kind_here", "_law_values", "_law_by_name"] 102 spAo := ⟨_, fdAo, FAo.kp, gAo, bAo, ok_ao FAo B FOr gOr bOr GOr hLo hS⟩
  have hAj : HasG P w K mg base "_law_are_judged" ["_law_well_here", "_law_kind_here", "_law_values"] 102 spAj := ⟨_, fdAj, FAj.kp, gAj, bAj, ok_aj FAj B FIv gIv bIv GIv hIs hSp hO hS⟩
  have h1 : HasG P w K mg base "_law_right" ["_law_well_here"] 103 spOne := ⟨_, fd1, F1.kp, g1, b1, ok_one F1 B hK hP hV hD hNe hOr hLo hT hS hAo hAj⟩
  exact ok_law F B ⟨_, fdW, FW.kp, gW, bW, ok_well FW B⟩ h1
end
end K3
open PySem PyProof.Rows PySem.W PySem.Calls
set_option maxRecDepth 99999 in
set_option maxHeartbeats 0 in
theorem PySem.Challenge.cw_bykindalone_k03_whole_values_and_their_o_holds : PySem.Challenge.rw_bykindalone_k03_whole_values_and_their_o.Holds := by
  w_on; o_law
  refine HandSHeadRun.head_any (r := OpenLaw.row PySem.Challenge.rw_bykindalone_k03_whole_values_and_their_o) (q := view (OpenLaw.row PySem.Challenge.rw_bykindalone_k03_whole_values_and_their_o).prog [42]) (H := K3.hk) (ob := K3.ob) (M := 30000) (loose := K3.loose)
    (d := HandSHeadRun.topDef (OpenLaw.row PySem.Challenge.rw_bykindalone_k03_whole_values_and_their_o).prog 42) (kwd := []) K3.ob_eq
    (by kernel_rfl) (fun s => by kernel_rfl) K3.run (by kernel_rfl) (by kernel_rfl) (by kernel_rfl) (by rfl) (by first | assumption | decide +kernel) (by decide +kernel) ⟨rfl, rfl, rfl, rfl, rfl, by decide +kernel⟩ ?hw ?hc
  case hw => w_witness2
  case hc =>
    refine KB.walk_ofG (l := PySem.Challenge.rw_bykindalone_k03_whole_values_and_their_o) (n := 63) (k := 104) (x := "_law_script") rfl (by decide) (by kernel_rfl) ⟨rfl, by decide, by decide⟩ ?F
    intro w mg fa h Y G hmg0
    obtain ⟨K, KX, c⟩ := Y
    have T := K3.top_of (P := (PySem.Challenge.rw_bykindalone_k03_whole_values_and_their_o).prog) (w := w) KX G c
    have atLaw : mg ("law" : PySem.Str) = some (.ref fa) := by
      have e : (HandSHeadRun.topDef (OpenLaw.row PySem.Challenge.rw_bykindalone_k03_whole_values_and_their_o).prog 42).name = ("law" : PySem.Str) := by kernel_rfl
      rw [← e]
      exact hmg0
    have hga : fa = He.ga K "law" := by
      have z := atLaw.symm.trans (T.fns ("law", 42) (List.contains_iff_mem.mp (by decide +kernel)))
      cases z
      rfl
    subst hga
    obtain ⟨fd, hb, hF⟩ := K3.law_all (P := (PySem.Challenge.rw_bykindalone_k03_whole_values_and_their_o).prog) (w := w) T
    exact ⟨K, fd, K3.spLaw K, KX, hb, fun H a ns hl _ hS => ⟨a, ns, rfl, hS, fun _ => rfl⟩, fun base _ _ => hF base⟩
