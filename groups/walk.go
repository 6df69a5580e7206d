package groups

// rest is what of a condition is yet to be gone through: items of its arm, then arms.
type rest struct {
	items []Item
	arms  []Arm
}

// each tells the lines, in order, each with how many conditions are its own or around it. Conditions may be as deep as there are lines, so what is open stands in a stack and not in calls.
func each(l []Item, tell func(line, deep int)) {
	stack := []rest{{items: l}}
	for len(stack) > 0 {
		deep := len(stack) - 1
		top := &stack[deep]
		switch {
		case len(top.items) > 0:
			item := top.items[0]
			top.items = top.items[1:]
			if len(item.Arms) > 0 {
				stack = append(stack, rest{arms: item.Arms})
			} else {
				tell(item.Line, deep)
			}
		case len(top.arms) > 0:
			arm := top.arms[0]
			*top = rest{items: arm.Items, arms: top.arms[1:]}
			tell(arm.Line, deep)
		default:
			stack = stack[:deep]
		}
	}
}
