package term

import "strconv"

// letters are what variables are called in a listing: as many as a clause may have.
const letters = "ABCDEFGHIJKLMNOP"

// Text writes a clause as it is listed.
func (c Clause) Text() string {
	text := c.Head.Text()
	for i, goal := range c.Body {
		if i == 0 {
			text += ":-"
		} else {
			text += ","
		}
		text += goal.Text()
	}
	return text + "."
}

// Text writes a term, or a goal that is a cut, as it is listed: its variables are letters.
func (t Term) Text() string { return t.written(true) }

// Answer writes a term as it stands in an answer: its variables are _1, _2 and so on.
func (t Term) Answer() string { return t.written(false) }

func (t Term) written(listed bool) string {
	text := ""
	var open []int // for each compound that is open, how many arguments are still to be ended
	for _, part := range t {
		text += part.word(listed)
		if part.Args > 0 {
			text += "("
			open = append(open, part.Args)
			continue
		}
		// What ends here may be the last argument of several compounds at once.
		for len(open) > 0 {
			last := len(open) - 1
			open[last]--
			if open[last] > 0 {
				text += ","
				break
			}
			text += ")"
			open = open[:last]
		}
	}
	return text
}

func (p Part) word(listed bool) string {
	switch p.Kind {
	case Variable:
		if listed {
			return letter(p.Value)
		}
		return "_" + strconv.Itoa(p.Value+1)
	case Number:
		return strconv.Itoa(p.Value)
	case Cut:
		return "!"
	}
	return p.Name
}

func letter(which int) string {
	if which < 0 || which >= len(letters) {
		return "_"
	}
	return letters[which : which+1]
}
