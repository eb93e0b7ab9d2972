"""Facts about all safe drivers of a plan, and the papers that decide whether there is one."""
