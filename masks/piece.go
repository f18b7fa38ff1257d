package masks

// piece is a row of whole windows of one form, some of whose words are pointers, and
// the top of a tree of pieces: those below its left come ahead of it, those below
// its right behind it. Words that are in no piece are no pointers. The heights of
// left and right differ by at most 1, so that no way down is long.
type piece struct {
	first, end  uint64
	form        form
	own         uint64 // how many of its words are pointers
	sum         uint64 // and of those of all pieces below it
	height      int
	left, right *piece
}

func newPiece(first, end uint64, f form) *piece {
	return &piece{first: first, end: end, form: f, own: f.count(first, end)}
}

func (p *piece) tall() int {
	if p == nil {
		return 0
	}
	return p.height
}

func (p *piece) pointers() uint64 {
	if p == nil {
		return 0
	}
	return p.sum
}

// formAt is the form in which a word stands.
func (p *piece) formAt(word uint64) form {
	for p != nil {
		switch {
		case word < p.first:
			p = p.left
		case word >= p.end:
			p = p.right
		default:
			return p.form
		}
	}
	return none{}
}

// ahead is how many words ahead of one are pointers.
func (p *piece) ahead(word uint64) uint64 {
	n := uint64(0)
	for p != nil {
		if word <= p.first {
			p = p.left
			continue
		}
		n += p.left.pointers()
		if word < p.end {
			return n + p.form.count(p.first, word)
		}
		n += p.own
		p = p.right
	}
	return n
}

// put gives whole windows a form, whatever pieces they were in, and answers the tree
// that the others and they are then.
func (p *piece) put(first, end uint64, f form) *piece {
	left, rest := split(p, first)
	_, right := split(rest, end)
	return join(left, newPiece(first, end, f), right)
}

// split parts a tree into the pieces ahead of the begin of a window, and the others;
// a piece that lies across it becomes two.
func split(p *piece, at uint64) (*piece, *piece) {
	switch {
	case p == nil:
		return nil, nil
	case at <= p.first:
		left, right := split(p.left, at)
		return left, join(right, p, p.right)
	case at >= p.end:
		left, right := split(p.right, at)
		return join(p.left, p, left), right
	}
	left, right := newPiece(p.first, at, p.form), newPiece(at, p.end, p.form)
	return join(p.left, left, nil), join(nil, right, p.right)
}

// join is the tree of left, a piece behind it, and right behind that. A piece without
// pointers is left out.
func join(left, p, right *piece) *piece {
	switch {
	case p.own == 0:
		return link(left, right)
	case left.tall() > right.tall()+1:
		left.right = join(left.right, p, right)
		return left.settle()
	case right.tall() > left.tall()+1:
		right.left = join(left, p, right.left)
		return right.settle()
	}
	p.left, p.right = left, right
	return p.settle()
}

// link is a join without a piece between.
func link(left, right *piece) *piece {
	if right == nil {
		return left
	}
	p, rest := right.pop()
	return join(left, p, rest)
}

// pop is the first piece of a tree, and the tree without it.
func (p *piece) pop() (*piece, *piece) {
	if p.left == nil {
		return p, p.right
	}
	first, rest := p.left.pop()
	return first, join(rest, p, p.right)
}

// settle measures the top of a tree, and turns it where one side is taller than the
// other by 2.
func (p *piece) settle() *piece {
	switch p.left.tall() - p.right.tall() {
	case 2:
		if p.left.left.tall() < p.left.right.tall() {
			p.left = p.left.turnLeft()
		}
		return p.turnRight()
	case -2:
		if p.right.right.tall() < p.right.left.tall() {
			p.right = p.right.turnRight()
		}
		return p.turnLeft()
	}
	p.measure()
	return p
}

// turnLeft makes the right one the top.
func (p *piece) turnLeft() *piece {
	top := p.right
	p.right, top.left = top.left, p
	p.measure()
	top.measure()
	return top
}

// turnRight makes the left one the top.
func (p *piece) turnRight() *piece {
	top := p.left
	p.left, top.right = top.right, p
	p.measure()
	top.measure()
	return top
}

// measure tells anew what a piece knows of those below it.
func (p *piece) measure() {
	p.height = 1 + max(p.left.tall(), p.right.tall())
	p.sum = p.left.pointers() + p.own + p.right.pointers()
}
